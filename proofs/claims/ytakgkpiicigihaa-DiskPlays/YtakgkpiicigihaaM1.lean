/- disk XXXIX: the document's disk in memory; what a step of the document leaves. -/
import Derived.Test.YtakgkpiicigihaaM0
import Derived.Deep.DeepCutAuto
import Derived.Laws.Cover1
namespace Go.Proofs.Ytakgkpiicigihaa
open Go.RowKit Go.Maps Go.Sort Go.Shelf pk
set_option linter.unusedVariables false

/-- a file of the document's -/
structure RF where
  nm : List UInt8
  ba : Option Addr
  bc : Nat
  bs : List Nat
  ka : Option Addr
  kc : Nat
  ks : List Bool
def RF.bv (f : RF) : Value := .slice f.ba f.bs.length f.bc
def RF.kv (f : RF) : Value := .slice f.ka f.ks.length f.kc
def RF.cells (f : RF) : List Value := [.string ⟨f.nm.toArray⟩, f.bv, f.kv]
theorem infoF : (Try.prog.info? 94).map (fun i => (i.zero.map (fun z => z.cells.size), i.size, i.bytes)) = some (some 3, 3, 64) := by kernel_rfl
theorem infoF3 : (Try.prog.info? 94).map (·.size) = some 3 := by kernel_rfl
def KF : Kd RF where
  T := 94
  S := 64
  k := 3
  bt := 64
  enc := RF.cells
  info := by
    obtain ⟨i, hi, hz⟩ := Option.map_eq_some_iff.1 infoF
    simp only [Prod.mk.injEq] at hz
    obtain ⟨z, hz0, hz1⟩ := Option.map_eq_some_iff.1 hz.1
    exact ⟨i, z, hi, hz0, hz.2.1, hz.2.2, hz1⟩
  und := Try.underlying64
  pos := by decide
  len := fun _ => rfl
  one := fun x v h => by simp [RF.cells, RF.bv, RF.kv] at h; rcases h with rfl | rfl | rfl <;> rfl
/-- the types of the document's own blocks -/
def Rt (T : TypeId) : Prop := T = 66 ∨ T = 94
/-- all but cells of these types is as it was -/
structure KeR (w w' : World) : Prop where
  os : w'.os = w.os
  tape : w'.tape = w.tape
  output : w'.output = w.output
  size : w.heap.size ≤ w'.heap.size
  blk : ∀ (i : Nat) (o : Obj), w.heap[i]? = some o → (∀ cs T z, o = .cells cs T z → ¬ Rt T) → w'.heap[i]? = some o
theorem KeR.refl (w : World) : KeR w w := ⟨rfl, rfl, rfl, Nat.le_refl _, fun _ _ h _ => h⟩
theorem KeR.trans {a b c : World} (h : KeR a b) (k : KeR b c) : KeR a c := ⟨k.os.trans h.os, k.tape.trans h.tape, k.output.trans h.output, Nat.le_trans h.size k.size, fun i o e hT => k.blk i o (h.blk i o e hT) hT⟩
theorem KeR.bel {w w' : World} (h : Below w.heap.size w w') : KeR w w' := ⟨h.os, h.tape, h.output, h.size, fun i o e _ => (h.block i (hlt_of e)).trans e⟩
theorem KeR.upd {w w' : World} {p : Nat} {cs : List Value} {T : TypeId} (h : Upd p w w') (v : VA w p cs T) (hT : Rt T) : KeR w w' :=
  ⟨h.os, h.tape, h.output, Nat.le_of_eq h.size.symm, fun i o e hn => (h.block i (fun er => by subst er; rw [v.blk] at e; cases e; exact hn _ _ _ rfl hT)).trans e⟩
theorem KeR.upd2 {w w' : World} {p : Nat} {cs : Array Value} {T : TypeId} {z : Nat × Nat} (h : Upd p w w') (v : w.heap[p]? = some (.cells cs T z)) (hT : Rt T) : KeR w w' :=
  ⟨h.os, h.tape, h.output, Nat.le_of_eq h.size.symm, fun i o e hn => (h.block i (fun er => by subst er; rw [v] at e; cases e; exact hn _ _ _ rfl hT)).trans e⟩
theorem VA.ker {w w' : World} {p : Nat} {cs : List Value} {T : TypeId} (h : VA w p cs T) (k : KeR w w') (hT : ¬ Rt T) : VA w' p cs T := ⟨k.blk _ _ h.blk (fun _ _ _ e => by cases e; exact hT)⟩
/-- the elements lie in a block of another type -/
def SafeX (w : World) (v : Value) : Prop := ∀ b off n c, v = .slice (some ⟨b, off, none⟩) n c → ∃ cs T z, w.heap[b]? = some (Obj.cells cs T z) ∧ ¬ Dt T ∧ ¬ Rt T
theorem SafeX.safe {w : World} {v : Value} (h : SafeX w v) : Safe w v := fun b off n c e => by
  obtain ⟨cs, T, z, h1, h2, _⟩ := h b off n c e
  exact ⟨cs, T, z, h1, h2⟩
theorem SafeX.kee {w w' : World} {v : Value} (h : SafeX w v) (k : Kee w w') : SafeX w' v := fun b off n c e => by
  obtain ⟨cs, T, z, hb, hT, hR⟩ := h b off n c e
  exact ⟨cs, T, z, k.blk _ _ _ _ hb hT, hT, hR⟩
theorem SafeX.ker {w w' : World} {v : Value} (h : SafeX w v) (k : KeR w w') : SafeX w' v := fun b off n c e => by
  obtain ⟨cs, T, z, hb, hT, hR⟩ := h b off n c e
  exact ⟨cs, T, z, k.blk _ _ hb (fun _ _ _ e => by cases e; exact hR), hT, hR⟩
theorem pk.Bs.ker {w w' : World} {v : Value} {bs : List Nat} (h : Bs w v bs) (hs : SafeX w v) (k : KeR w w') : Bs w' v bs := by
  obtain ⟨hby, a, c, rfl, h1, h2, h3, h4⟩ := h
  refine ⟨hby, a, c, rfl, h1, h2, h3, fun h0 => ?_⟩
  obtain ⟨b, off, rfl, hb, hx⟩ := h4 h0
  obtain ⟨cs, T, z, hc, hT, hR⟩ := hs b off _ _ rfl
  refine ⟨b, off, rfl, Nat.lt_of_lt_of_le hb k.size, fun j hj => ?_⟩
  rw [← hx j hj]
  exact World.cell?_of_block ((k.blk _ _ hc (fun _ _ _ e => by cases e; exact hR)).trans hc.symm)
theorem Bl.ker {w w' : World} {v : Value} {ks : List Bool} (h : Bl w v ks) (hs : SafeX w v) (k : KeR w w') : Bl w' v ks := by
  obtain ⟨a, c, rfl, h1, h2, h3⟩ := h
  refine ⟨a, c, rfl, h1, h2, fun h0 => ?_⟩
  obtain ⟨b, off, rfl, hx⟩ := h3 h0
  obtain ⟨cs, T, z, hc, hT, hR⟩ := hs b off _ _ rfl
  refine ⟨b, off, rfl, fun j hj => ?_⟩
  rw [← hx j hj]
  exact World.cell?_of_block ((k.blk _ _ hc (fun _ _ _ e => by cases e; exact hR)).trans hc.symm)
/-- what a file of the document's holds -/
structure Rf (w : World) (f : RF) : Prop where
  b : Bs w f.bv f.bs
  bs : SafeX w f.bv
  k : Bl w f.kv f.ks
  kss : SafeX w f.kv
  len : f.bs.length = 32 * f.ks.length
  no : f.ka = none → f.kc = 0
  nm : f.nm.length ≤ 16
theorem Rf.kee {w w' : World} {f : RF} (h : Rf w f) (k : Kee w w') : Rf w' f := ⟨h.b.kee h.bs.safe k, h.bs.kee k, h.k.kee h.kss.safe k, h.kss.kee k, h.len, h.no, h.nm⟩
theorem Rf.ker {w w' : World} {f : RF} (h : Rf w f) (k : KeR w w') : Rf w' f := ⟨h.b.ker h.bs k, h.bs.ker k, h.k.ker h.kss k, h.kss.ker k, h.len, h.no, h.nm⟩
/-- how many sectors -/
def rtot : List RF → Nat
  | [] => 0
  | f :: fs => f.ks.length + rtot fs
/-- the document's disk in plain words -/
structure RK where
  fs : List RF
  room : Nat
  off : Bool
  armed : Nat
  ops : Nat
  last : Nat
  a : List UInt8
  b : List UInt8
  n : Nat
def RK.cells (y : RK) (fv : Value) : List Value := [fv, .int .i64 y.room, .bool y.off, .int .i64 y.armed, .int .i64 y.ops, .int .i64 y.last, .string ⟨y.a.toArray⟩, .string ⟨y.b.toArray⟩, .int .i64 y.n]
structure RD (w : World) (B q : Nat) (fv : Value) (y : RK) : Prop where
  va : VA w q (y.cells fv) 66
  row : Own KF w B fv y.fs
  fil : ∀ f ∈ y.fs, Rf w f
  lo : B ≤ q
  cnt : y.fs.length ≤ 64
  room : rtot y.fs ≤ y.room ∧ y.room ≤ 65536
theorem Own.keeK {α : Type} {K : Kd α} {w w' : World} {B : Nat} {v : Value} {xs : List α} (h : Own K w B v xs) (k : Kee w w') (hT : ¬ Dt K.T) : Own K w' B v xs := by
  refine h.blk (fun g hg => ?_)
  rcases h.own.2 with ⟨rfl, _⟩ | ⟨q, cap, cur, rfl, _, hq, _⟩
  · cases hg
  · cases hg
    exact (k.blk _ _ _ _ hq hT).trans hq.symm
theorem RD.kee {w w' : World} {B q : Nat} {fv : Value} {y : RK} (h : RD w B q fv y) (k : Kee w w') : RD w' B q fv y :=
  ⟨h.va.kee k (by unfold Dt; decide), h.row.keeK k (by unfold Dt; decide), fun f hf => (h.fil f hf).kee k, h.lo, h.cnt, h.room⟩
theorem RD.step {w w' : World} {B q : Nat} {fv : Value} {y : RK} (h : RD w B q fv y) (k : Below w.heap.size w w') : RD w' B q fv y := h.kee (Kee.bel k)
theorem RD.lt {w : World} {B q : Nat} {fv : Value} {y : RK} (h : RD w B q fv y) : B ≤ w.heap.size := Nat.le_trans h.lo (Nat.le_of_lt h.va.lt)
/-- the program's disk doesn't mind what the document does -/
theorem DA.ker {w w' : World} {B p m : Nat} {x : AD} (h : DA w B p m x) (k : KeR w w') : DA w' B p m x := by
  obtain ⟨es, u, hD, hab, hu, hun⟩ := h
  have hd : ∀ T, Dt T → ¬ Rt T := fun T h1 h2 => by
    rcases h1 with rfl | rfl | rfl <;> rcases h2 with h2 | h2 <;> cases h2
  refine ⟨es, u, ⟨hD.va.ker k (hd _ (.inl rfl)), hD.mp.blk ?_, fun e he => ?_, hD.ap, hD.lo, hD.fits⟩, hab, ?_, hun⟩
  · obtain ⟨ms, c, hm⟩ := map_blk hD.mp
    exact (k.blk _ _ hm (fun _ _ _ e => by cases e)).trans hm.symm
  · have f := hD.fil e he
    refine ⟨f.blk.ker k (hd _ (.inr (.inl rfl))), f.row.blk (fun g hg => ?_), f.lo, f.sy, f.byte, f.nm⟩
    obtain ⟨cs, hc⟩ := row_blk f.row hg
    exact (k.blk _ _ hc (fun _ _ _ e => by cases e; exact hd _ (.inr (.inr rfl)))).trans hc.symm
  · cases hq : x.und with
    | none => rw [hq] at hu; exact hu
    | some o =>
      rw [hq] at hu
      have n1 : ¬ Rt 82 := by unfold Rt; decide
      have n2 : ¬ Rt 3 := by unfold Rt; decide
      have n3 : ¬ Rt 24 := by unfold Rt; decide
      have n4 : ¬ Rt 9 := by unfold Rt; decide
      rcases hu with ⟨h1, Bf, e, h2, h3, h4⟩ | ⟨h1, hn, Bf, Bn, e, h2, h3, h4, h5⟩ | ⟨h1, hn, Bd, Ba, Bf, Bb, e, h2, h3, h4, h5, h6, h7⟩ | ⟨h1, Bd, Ba, e, h2, h3, h4, h5⟩
      · exact .inl ⟨h1, Bf, e, h2, h3, h4.ker k n1⟩
      · exact .inr (.inl ⟨h1, hn, Bf, Bn, e, h2, h3, h4.ker k n1, h5.ker k n2⟩)
      · exact .inr (.inr (.inl ⟨h1, hn, Bd, Ba, Bf, Bb, e, h2, h3, h4.ker k n3, h5.ker k n4, h6.ker k n1, h7.ker k n4⟩))
      · exact .inr (.inr (.inr ⟨h1, Bd, Ba, e, h2, h3, h4.ker k n3, h5.ker k n4⟩))
end Go.Proofs.Ytakgkpiicigihaa
/- disk XL: the document's Name, find, goes, flags. -/
namespace Go.Proofs.Ytakgkpiicigihaa
open Go.RowKit Go.Maps Go.Sort Go.Shelf pk
set_option linter.unusedVariables false

theorem RD.head {w w' : World} {B q : Nat} {fv : Value} {y y' : RK} (h : RD w B q fv y) (k : Upd q w w') (hv : VA w' q (y'.cells fv) 66) (hf : y'.fs = y.fs) (hr : y'.room = y.room) : RD w' B q fv y' ∧ KeR w w' ∧ Below B w w' := by
  have hk := KeR.upd k h.va (.inl rfl)
  refine ⟨⟨hv, ?_, fun f hf' => ?_, h.lo, by rw [hf]; exact h.cnt, by rw [hf, hr]; exact h.room⟩, hk, k.bel (Below.refl _ _) h.lo⟩
  · rw [hf]
    refine h.row.blk (fun g hg => k.block g (fun e => ?_))
    rcases h.row.own.2 with ⟨rfl, _⟩ | ⟨q', cap, cur, rfl, _, hq, _⟩
    · cases hg
    · cases hg
      have e' : q' = q := e
      rw [e', h.va.blk] at hq
      cases hq
  · rw [hf] at hf'
    exact (h.fil f hf').ker hk
/-- what goes makes of it -/
def rbeg (y : RK) : RK := { y with ops := y.ops + 1, armed := y.armed - 1, off := decide (y.armed = 1) }
set_option maxRecDepth 100000 in
theorem goes_ok (w : World) (B q : Nat) (fv : Value) (y : RK) (h : RD w B q fv y) (hoff : y.off = false) (ho : y.ops ≤ 4611686018427387904) (hl : y.armed ≤ 9223372036854775807) :
    Calls Try.prog 59 #[ptr q] w fun e w' => e = .returned (.bool (rbeg y).off) ∧ RD w' B q fv (rbeg y) ∧ KeR w w' ∧ Below B w w' := by
  have V := h.va
  have y2 := V.cell 2 (v := .bool y.off) rfl
  have y3 := V.cell 3 (v := .int .i64 y.armed) rfl
  have y4 := V.cell 4 (v := .int .i64 y.ops) rfl
  have f2 := V.free 2
  have f3 := V.free 3
  have f4 := V.free 4
  have HH := (show Hid _ from h)
  have HV := (show Hid _ from V)
  have d0 : (y.ops : Int) + 1 ≤ 9223372036854775807 := by omega
  clear h V
  rw [hoff] at y2
  have hp : (ptr q) = .pointer (some ⟨q, 0, none⟩) := rfl
  rw [hp]
  by_cases h0 : y.armed = 0
  · have e1 : rbeg y = { y with ops := y.ops + 1, armed := 0, off := false } := by unfold rbeg; simp [h0]
    rw [e1]
    rw [h0] at y3
    go_enter Try.func59, Try.ntmps59
    go_wp2
    go_ret
    refine ⟨rfl, HH.out.head (upd_set _ _ _ _) ?_ rfl rfl⟩
    have := HV.out.set 4 (.int .i64 ((y.ops : Int) + 1))
    unfold RK.cells at this ⊢
    rw [h0, hoff] at this
    simpa using this
  · obtain ⟨k, hk⟩ : ∃ k : Nat, y.armed = k + 1 := ⟨y.armed - 1, by omega⟩
    rw [hk] at y3 hl
    have HKA : Hid (y.armed = k + 1) := hk
    clear hk h0
    have e1 : rbeg y = { y with ops := y.ops + 1, armed := k, off := decide (k = 0) } := by unfold rbeg; simp [HKA.out]
    rw [e1]
    clear e1
    cases k with
    | zero =>
      go_enter Try.func59, Try.ntmps59
      go_wp2
      go_ret
      refine ⟨rfl, HH.out.head (((upd_set _ _ _ _).trans (upd_set _ _ _ _)).trans (upd_set _ _ _ _)) ?_ rfl rfl⟩
      have := ((HV.out.set 4 (.int .i64 ((y.ops : Int) + 1))).set 3 (.int .i64 0)).set 2 (.bool true)
      unfold RK.cells at this ⊢
      simpa using this
    | succ k =>
      obtain ⟨z, hz⟩ : ∃ z : Int, z = (k : Int) + 2 := ⟨_, rfl⟩
      have y3' : w.cell? ⟨q, 3, none⟩ = some (.int .i64 z) := by rw [y3, hz]; congr 2
      obtain ⟨z1, hz1⟩ : ∃ z1 : Int, z1 = z - 1 := ⟨_, rfl⟩
      have d5 : (z == 0) = false := by simp; omega
      have d6 : (z = 0) = False := by simp; omega
      have d7 : (z1 == 0) = false := by simp; omega
      have d8 : (z1 = 0) = False := by simp; omega
      have d9 : IntKind.i64.wrap (z - 1) = z1 := by rw [hz1]; unfold IntKind.wrap; simp [IntKind.signed, IntKind.bits]; omega
      have HZ1 : Hid (z1 = ((k + 1 : Nat) : Int)) := (show z1 = ((k + 1 : Nat) : Int) by omega)
      clear y3 hl hz hz1
      rw [show decide (k + 1 = 0) = false by simp]
      go_enter Try.func59, Try.ntmps59
      go_wp2
      go_ret
      refine ⟨rfl, HH.out.head (((upd_set _ _ _ _).trans (upd_set _ _ _ _)).trans (upd_set _ _ _ _)) ?_ rfl rfl⟩
      have := ((HV.out.set 4 (.int .i64 ((y.ops : Int) + 1))).set 3 (.int .i64 z1)).set 2 (.bool false)
      rw [HZ1.out] at this ⊢
      unfold RK.cells at this ⊢
      simpa using this
/-- where a file stands -/
def rix (fs : List RF) (l : List UInt8) : Option Nat := fs.findIdx? (fun f => f.nm == l)
theorem rix_none {fs : List RF} {l : List UInt8} (h : ∀ j (hj : j < fs.length), fs[j].nm ≠ l) : rix fs l = none := by
  unfold rix
  rw [List.findIdx?_eq_none_iff]
  intro f hf
  obtain ⟨j, hj, rfl⟩ := List.getElem_of_mem hf
  simpa using h j hj
theorem rix_some {fs : List RF} {l : List UInt8} {i : Nat} (hi : i < fs.length) (he : fs[i].nm = l) (h : ∀ j (hj : j < fs.length), j < i → fs[j].nm ≠ l) : rix fs l = some i := by
  unfold rix
  rw [List.findIdx?_eq_some_iff_getElem]
  exact ⟨hi, by simpa using he, fun j hj => by simpa using h j (by omega) hj⟩
/-- .. as find tells it -/
def rixI (fs : List RF) (l : List UInt8) : Int := match rix fs l with | some i => (i : Int) | none => -1
set_option maxRecDepth 100000 in
theorem rfind_ok (w : World) (B q : Nat) (fv : Value) (y : RK) (h : RD w B q fv y) (s : ByteArray) :
    Calls Try.prog 56 #[ptr q, .string s] w fun e w' => e = .returned (.int .i64 (rixI y.fs s.data.toList)) ∧ Below w.heap.size w w' := by
  obtain ⟨fa, fc, hfv, hc1, hc2⟩ := h.row.form
  subst hfv
  have y0 := h.va.cell 0 (v := .slice fa y.fs.length fc) rfl
  have HH := (show Hid _ from h)
  have hcnt := h.cnt
  generalize hN : y.fs.length = N at *
  have HN := (show Hid _ from hN)
  have hp : (ptr q) = .pointer (some ⟨q, 0, none⟩) := rfl
  rw [hp]
  clear h hN
  go_enter Try.func56, Try.ntmps56
  go_wp2_with fail
  go_loopw [12] (fun i wr => ∃ k : Nat, k ≤ N ∧ i = .int .i64 (k : Int) ∧ Hid (∀ j (hj : j < y.fs.length), j < k → y.fs[j].nm ≠ s.data.toList) ∧ Hid (Below w.heap.size w wr)) (fun i _ => N - (intOf i).toNat)
  case atStart => exact ⟨0, Nat.zero_le _, rfl, fun j hj h => absurd h (by omega), Below.refl _ _⟩
  case round =>
    obtain ⟨k, hk, rfl, HN0, HB⟩ := hrel
    by_cases hlt : k < N
    · have dk : (k : Int) < (N : Int) := by omega
      have hkl : k < y.fs.length := by rw [HN.out]; exact hlt
      have hsl := (HH.out.row.sl.step HB.out)
      obtain ⟨f, hf⟩ : ∃ f, f = y.fs[k] := ⟨_, rfl⟩
      obtain ⟨b, off, rfl, hbl, hcell⟩ := hsl.at k f (by rw [hf]; exact List.getElem?_eq_getElem hkl)
      have HCL : Hid (∀ j u, f.cells[j]? = some u → wr.cell? ⟨b, off + k * 3 + j, none⟩ = some u) := hcell
      have HF := (show Hid _ from hf)
      have HB1 := (show Hid _ from HB.out.trans (((Below.refl wr.heap.size wr).alloc (Nat.le_refl _) (.cells f.cells.toArray 94)).mono HB.out.size))
      clear hcell hsl hf
      unfold RF.cells RF.bv RF.kv at HCL HB1
      by_cases he : f.nm = s.toList
      · have dA : (f.nm == s.toList) = true := by simp [he]
        have HE : Hid (f.nm = s.data.toList) := (show f.nm = s.data.toList by rw [he, ByteArray.toList_eq])
        clear he
        go_wp2_with (refine wpList_load_mid rfl 94 _ rfl b (off + k * 3) (by rfl) _ _ HCL.out Try.underlying94 rfl infoF3 ?_)
        go_ret
        refine ⟨?_, HB1.out⟩
        unfold rixI
        rw [rix_some hkl (by rw [← HF.out]; exact HE.out) HN0.out]
        rfl
      · have dA : (f.nm == s.toList) = false := beq_eq_false_iff_ne.2 he
        have HE : Hid (f.nm ≠ s.data.toList) := (show f.nm ≠ s.data.toList by rw [← ByteArray.toList_eq]; exact he)
        go_wp2_with (refine wpList_load_mid rfl 94 _ rfl b (off + k * 3) (by rfl) _ _ HCL.out Try.underlying94 rfl infoF3 ?_)
        go_roundw
        case rel => exact ⟨k + 1, by omega, by simp, fun j hj h => (by
          rcases Nat.lt_succ_iff_lt_or_eq.1 h with h | h
          · exact HN0.out j hj h
          · subst h; rw [← HF.out]; exact HE.out), HB1.out⟩
        case measure => simp [intOf]; omega
    · obtain rfl : k = N := by omega
      go_wp2_with fail
      go_ret
      refine ⟨?_, HB.out⟩
      unfold rixI
      rw [rix_none (fun j hj => HN0.out j hj (by rw [← HN.out]; exact hj))]
      rfl
theorem made_bl (n : Nat) : madeCells (Value.bool false).cells (n * 1) = ((List.replicate n false).map Value.bool).toArray := by
  show (Array.range (n * 1)).map _ = _
  refine Array.ext_getElem? fun i => ?_
  by_cases h : i < n
  · simp [h, Nat.mod_one, Value.cells]
  · simp [h]
theorem infoBz : (Try.prog.info? 4).map (fun i => (i.zero, i.size, i.bytes)) = some (some (.bool false), 1, 1) := by kernel_rfl
theorem mk_bl (n : Nat) (hn : n ≤ 1000000) (w : World) : (Instr.makeSlice 32 (.int .i64 (n : Int)) (.int .i64 (n : Int))).run Try.prog w = .ok (.slice (some ⟨w.heap.size, 0, none⟩) n n) (w.alloc (.cells ((List.replicate n false).map Value.bool).toArray 4)) := by
  obtain ⟨i0, hi, hz⟩ := Option.map_eq_some_iff.1 infoBz
  simp only [Prod.mk.injEq] at hz
  have h := run_make (P := Try.prog) w 32 4 i0 _ Try.underlying32 hi hz.1 .i64 .i64 n n (by omega) (by omega) (by rw [hz.2.2]; omega) (by omega)
  rw [hz.2.1] at h
  simp only [Int.toNat_natCast] at h
  rw [made_bl] at h
  exact h
/-- a row of truth values that is new -/
def NewB (w w' : World) (v : Value) (ks : List Bool) : Prop := ∃ g, v = .slice (some ⟨g, 0, none⟩) ks.length ks.length ∧ w.heap.size ≤ g ∧ VA w' g (ks.map Value.bool) 4
set_option maxRecDepth 100000 in
theorem flags_ok (n : Nat) (hn : n ≤ 65536) (x : Bool) (w : World) :
    Calls Try.prog 58 #[.int .i64 (n : Int), .bool x] w fun e w' => (∃ v, e = .returned v ∧ NewB w w' v (List.replicate n x)) ∧ Below w.heap.size w w' := by
  have hmk := mk_bl n (by omega) w
  have V1 := va_new w ((List.replicate n false).map Value.bool) 4
  have B1 := (Below.refl w.heap.size w).alloc (Nat.le_refl _) (.cells ((List.replicate n false).map Value.bool).toArray 4)
  have HV1 := (show Hid _ from V1)
  have HB1 := (show Hid _ from B1)
  generalize hcc : ((List.replicate n false).map Value.bool).toArray = cc at hmk
  rw [hcc] at HB1
  have HV1' : Hid (VA (w.alloc (.cells cc 4)) w.heap.size ((List.replicate n false).map Value.bool) 4) := by rw [← hcc]; exact HV1.out
  clear V1 B1 HV1 hcc
  go_enter Try.func58, Try.ntmps58
  go_wp2_with fail
  go_loopw [11] (fun i wr => ∃ k : Nat, k ≤ n ∧ i = .int .i64 (k : Int) ∧ Hid (VA wr w.heap.size ((List.replicate k x ++ List.replicate (n - k) false).map Value.bool) 4) ∧ Hid (Below w.heap.size w wr)) (fun i _ => n - (intOf i).toNat)
  case atStart => exact ⟨0, Nat.zero_le _, rfl, HV1'.out, HB1.out⟩
  case round =>
    obtain ⟨k, hk, rfl, HV, HB⟩ := hrel
    by_cases hlt : k < n
    · have dk : (k : Int) < (n : Int) := by omega
      have c := HV.out.cell k (v := .bool false) (by rw [List.getElem?_map, List.getElem?_append_right (by simp), List.length_replicate, Nat.sub_self, List.getElem?_replicate, if_pos (by omega)]; rfl)
      have f := HV.out.free k
      go_wp2_with fail
      go_roundw
      case rel =>
        refine ⟨k + 1, by omega, by simp, ?_, (upd_set wr w.heap.size k (.bool x)).bel HB.out (Nat.le_refl _)⟩
        show VA _ _ _ _
        have h1 := HV.out.set k (.bool x)
        have e : ((List.replicate k x ++ List.replicate (n - k) false).map Value.bool).set k (.bool x) = (List.replicate (k + 1) x ++ List.replicate (n - (k + 1)) false).map Value.bool := by
          rw [← List.map_set]
          congr 1
          rw [List.set_append_right _ _ (by simp), List.length_replicate, Nat.sub_self, show n - k = (n - (k + 1)) + 1 by omega, List.replicate_succ, List.set_cons_zero, List.replicate_succ', List.append_assoc]
          rfl
        rw [e] at h1
        exact h1
      case measure => simp [intOf]; omega
    · obtain rfl : k = n := by omega
      go_wp2_with fail
      go_ret
      refine ⟨⟨_, rfl, w.heap.size, by rw [List.length_replicate]; rfl, Nat.le_refl _, ?_⟩, HB.out⟩
      have := HV.out
      rwa [Nat.sub_self, List.replicate_zero, List.append_nil] at this
end Go.Proofs.Ytakgkpiicigihaa
/- disk XLI: the document's put, drop. -/
namespace Go.Proofs.Ytakgkpiicigihaa
open Go.RowKit Go.Maps Go.Sort Go.Shelf pk
set_option linter.unusedVariables false
set_option linter.unusedSimpArgs false

theorem VA.grownN {w w' : World} {p : Nat} {cs : List Value} {T : TypeId} {row : Option Nat} (h : VA w p cs T) (g : w.grownBy w' row) (hn : row = some p → False) : VA w' p cs T := ⟨(g.block p h.lt (fun e => hn e.symm)).trans h.blk⟩
/-- append(l, d): of one that was just built; and what it leaves alone -/
theorem appOneG {α : Type} {K : Kd α} {w : World} {ops : Array Oper} {rest : List Oper} {o : Oper} {a : Act} {Q : Exit → Act → World → Prop} {T : TypeId} (hgd : o.guard = none) (s x : Operand)
    (ho : o.op = .call { callee := .builtin .append, args := #[s, x], argTypes := #[K.S, K.S] })
    (B : Nat) (xs : List α) (v : Value) (d : α) (hs : a.eval s = v) (hx : a.eval x = .slice (some ⟨w.heap.size, 0, none⟩) 1 1)
    (hown : Own K w B v xs) (hB : B ≤ w.heap.size) (hl : (xs.length + 1) * K.bt ≤ 140737488355328) (hl2 : xs.length + 1 ≤ 140737488355328)
    (cs : Array Value) (hcs : cs = (K.enc d).toArray)
    (h : ∀ v' w', Own K w' B v' (xs ++ [d]) → Below B w w' → (w.alloc (.cells (K.enc d).toArray T)).grownBy w' v.ownBlock → wpList Try.prog ops Q rest (a.put o.dst v') w') :
    wpList Try.prog ops Q (o :: rest) a (w.alloc (.cells cs T)) := by
  subst hcs
  refine appG hgd s x ho B xs [d] v ⟨w.heap.size, 0, none⟩ 1 hs hx (hown.alloc _) ?_ (by simp; omega) (by simpa using hl) (by simpa using hl2) (fun v' w' p q r => h v' w' p ?_ r)
  · intro j u hj
    have : (K.enc d)[j]? = some u := by simpa [Kd.cells] using hj
    rw [Go.WideShapes.add_plain, Nat.zero_add]
    exact (va_new w (K.enc d) T).cell j this
  · exact ((Below.refl _ _).alloc hB _).trans q
/-- put, in plain words -/
def putL (f : RF) : Bool → List RF → List RF
  | false, [] => [f]
  | true, [] => []
  | dn, x :: xs => (if dn = false ∧ ¬ x.nm < f.nm then [f] else []) ++ (if x.nm = f.nm then [] else [x]) ++ putL f (dn || !decide (x.nm < f.nm)) xs
/-- what a step of the document leaves -/
def RLv (w w' : World) (B q : Nat) (y' : RK) : Prop := (∃ fv', RD w' B q fv' y') ∧ KeR w w' ∧ Below B w w'
/-- .. where only the header changed -/
def RLp (w w' : World) (B q : Nat) (y' : RK) : Prop := (∃ fv', RD w' B q fv' y' ∧ ∀ g, fv'.ownBlock = some g → w.heap.size ≤ g) ∧ But (fun i => i = q) w w'
theorem RLp.back {w w4 w5 : World} {B q : Nat} {y' : RK} (k : RLp w4 w5 B q y') (b : Below w.heap.size w w4) : RLp w w5 B q y' := by
  obtain ⟨⟨fv', h1, h2⟩, h3⟩ := k
  exact ⟨⟨fv', h1, fun g hg => Nat.le_trans b.size (h2 g hg)⟩, (below_but b _).trans h3 (fun _ _ h => h)⟩
theorem RLp.lv {w w' : World} {B q : Nat} {fv : Value} {y y' : RK} (k : RLp w w' B q y') (h : RD w B q fv y) : RLv w w' B q y' :=
  ⟨k.1.elim (fun fv' h => ⟨fv', h.1⟩), ⟨k.2.os, k.2.tape, k.2.output, k.2.size, fun i o e hn => (k.2.block i (hlt_of e) (fun er => by subst er; rw [h.va.blk] at e; cases e; exact hn _ _ _ rfl (.inl rfl))).trans e⟩, k.2.below h.lt (fun i hi => by rw [hi]; exact h.lo)⟩
set_option maxRecDepth 100000 in
set_option maxHeartbeats 4000000 in
theorem put_ok (w : World) (B q : Nat) (fv : Value) (y : RK) (h : RD w B q fv y) (f : RF) (hf : Rf w f) (hc : (putL f false y.fs).length ≤ 64) (hr : rtot (putL f false y.fs) ≤ y.room) (hall : ∀ g ∈ putL f false y.fs, g = f ∨ g ∈ y.fs) :
    Calls Try.prog 57 #[ptr q, .agg f.cells.toArray] w fun r w' => (∃ v, r = .returned v) ∧ RLp w w' B q { y with fs := putL f false y.fs } := by
  obtain ⟨fa, fc, hfv, hc1, hc2⟩ := h.row.form
  subst hfv
  have HH := (show Hid _ from h)
  have HRF : Hid (Rf w f) := hf
  have HC : Hid ((putL f false y.fs).length ≤ 64) := hc
  have HR : Hid (rtot (putL f false y.fs) ≤ y.room) := hr
  have HAL : Hid (∀ g ∈ putL f false y.fs, g = f ∨ g ∈ y.fs) := hall
  have hcnt := h.cnt
  generalize hN : y.fs.length = N at *
  have HN := (show Hid _ from hN)
  have hlq := h.va.lt
  have y0 := (h.va.alloc (.cells f.cells.toArray 94)).cell 0 (v := .slice fa N fc) (by rw [← hN]; rfl)
  have b0 := (Below.refl w.heap.size w).alloc (Nat.le_refl _) (.cells f.cells.toArray 94)
  have V0 := va_new w f.cells 94
  obtain ⟨w0, hw0⟩ : ∃ w0, w0 = w.alloc (.cells f.cells.toArray 94) := ⟨_, rfl⟩
  obtain ⟨BASE, hbase⟩ : ∃ n, n = w.heap.size + 1 := ⟨_, rfl⟩
  have hw0s : w0.heap.size = BASE := by rw [hw0, hbase]; simp
  have HB0 : Hid (Below w.heap.size w w0) := by rw [hw0]; exact b0
  have HF0 : Hid (∀ w', Below BASE w0 w' → VA w' w.heap.size f.cells 94) := fun w' h => by
    have := V0
    rw [← hw0] at this
    exact ⟨(h.block _ (by omega)).trans this.blk⟩
  have HSL : Hid (∀ w', Below BASE w0 w' → Sl KF w' (.slice fa N fc) y.fs) := fun w' h => HH.out.row.sl.step (HB0.out.trans (h.mono (by omega)))
  have HHD : Hid (∀ w', Below BASE w0 w' → VA w' q (y.cells (.slice fa N fc)) 66) := fun w' h => HH.out.va.step (HB0.out.trans (h.mono (by omega)))
  have HBASE : Hid (BASE = w.heap.size + 1 ∧ w0.heap.size = BASE) := ⟨hbase, hw0s⟩
  have hp : (ptr q) = .pointer (some ⟨q, 0, none⟩) := rfl
  rw [hp]
  unfold RF.cells RF.bv RF.kv at y0 hw0 ⊢
  clear h hf hc hr hall hN V0 b0
  go_enter Try.func57, Try.ntmps57
  go_wp2_with fail
  rw [← hw0]
  have e0 : Hid (w0 = w0) := rfl
  clear hw0 hbase hw0s
  go_loopw [4, 5, 13] (fun l dv i wr => ∃ (k : Nat) (acc : List RF) (dn : Bool), k ≤ N ∧ i = .int .i64 (k : Int) ∧ dv = .bool dn ∧ (∃ la ln lc, l = .slice la ln lc) ∧ Hid (Own KF wr BASE l acc) ∧ Hid (acc ++ putL f dn (y.fs.drop k) = putL f false y.fs) ∧ Hid (acc.length ≤ 2 * k) ∧ Hid (Below BASE w0 wr) ∧ Hid (BASE ≤ wr.heap.size)) (fun _ _ i _ => N - (intOf i).toNat)
  case atStart => exact ⟨0, [], false, Nat.zero_le _, rfl, rfl, ⟨_, _, _, rfl⟩, own_nil _ _ _, (by show [] ++ putL f false (y.fs.drop 0) = _; rw [List.drop_zero]; rfl), Nat.zero_le _, Below.refl _ _, Nat.le_of_eq HBASE.out.2.symm⟩
  case round =>
    obtain ⟨k, acc, dn, hk, rfl, rfl, ⟨la, ln, lc, rfl⟩, HO, HEQ, HLK, HB, HBS⟩ := hrel
    have HL : Hid (acc.length ≤ 128) := (show acc.length ≤ 128 by have := HLK.out; omega)
    by_cases hlt : k < N
    · have dk : (k : Int) < (N : Int) := by omega
      have hkl : k < y.fs.length := by rw [HN.out]; exact hlt
      obtain ⟨x, hx⟩ : ∃ x, x = y.fs[k] := ⟨_, rfl⟩
      have HDR : Hid (y.fs.drop k = x :: y.fs.drop (k + 1)) := (show y.fs.drop k = x :: y.fs.drop (k + 1) by rw [hx]; exact (List.getElem_cons_drop hkl).symm)
      obtain ⟨b, off, rfl, hbl, hcell⟩ := (HSL.out wr HB.out).at k x (by rw [hx]; exact List.getElem?_eq_getElem hkl)
      have HCL : Hid (∀ j u, x.cells[j]? = some u → wr.cell? ⟨b, off + k * 3 + j, none⟩ = some u) := hcell
      clear hcell hx
      unfold RF.cells RF.bv RF.kv at HCL
      by_cases heq : x.nm = f.nm
      · cases dn with
        | false =>
          have hbl : Op.bytesLess x.nm f.nm = false := by rw [bytesLess_eq]; exact decide_eq_false (by rw [heq]; exact List.lt_irrefl _)
          have heb : (x.nm == f.nm) = true := by simp [heq]
          have HST : Hid (putL f false (x :: y.fs.drop (k + 1)) = [f] ++ (putL f true (y.fs.drop (k + 1)))) := by show putL f _ _ = _; simp [putL, heq, List.lt_irrefl]
          clear heq
          have HB1 : Hid (Below wr.heap.size wr (wr.alloc (.cells #[.string ⟨x.nm.toArray⟩, .slice x.ba x.bs.length x.bc, .slice x.ka x.ks.length x.kc] 94))) := (Below.refl wr.heap.size wr).alloc (Nat.le_refl _) _
          have HB2 : Hid (Below BASE w0 (wr.alloc (.cells #[.string ⟨x.nm.toArray⟩, .slice x.ba x.bs.length x.bc, .slice x.ka x.ks.length x.kc] 94))) := HB.out.trans (HB1.out.mono HBS.out)
          have HOX : Hid (Own KF (wr.alloc (.cells #[.string ⟨x.nm.toArray⟩, .slice x.ba x.bs.length x.bc, .slice x.ka x.ks.length x.kc] 94)) BASE (.slice la ln lc) acc) := HO.out.step HB1.out
          have HOXb : Hid (BASE ≤ (wr.alloc (.cells #[.string ⟨x.nm.toArray⟩, .slice x.ba x.bs.length x.bc, .slice x.ka x.ks.length x.kc] 94)).heap.size) := Nat.le_trans HBS.out HB1.out.size
          have HOXl : Hid (acc.length ≤ 128) := HL.out
          have HVX : Hid (VA (wr.alloc (.cells #[.string ⟨x.nm.toArray⟩, .slice x.ba x.bs.length x.bc, .slice x.ka x.ks.length x.kc] 94)) wr.heap.size x.cells 94) := va_new wr x.cells _
          have fx := HF0.out _ HB2.out
          have g0 := fx.cell 0 (v := .string ⟨f.nm.toArray⟩) rfl
          have g1 := fx.cell 1 (v := .slice f.ba f.bs.length f.bc) rfl
          have g2 := fx.cell 2 (v := .slice f.ka f.ks.length f.kc) rfl
          clear fx
          go_upto_region 6 with (refine wpList_load_mid rfl 94 _ rfl b (off + k * 3) (by rfl) _ _ HCL.out Try.underlying94 rfl infoF3 ?_)
          generalize hwb : wr.alloc (.cells #[.string ⟨x.nm.toArray⟩, .slice x.ba x.bs.length x.bc, .slice x.ka x.ks.length x.kc] 94) = wb at *
          have p0 := HVX.out.cell 0 (v := .string ⟨x.nm.toArray⟩) rfl
          have p1 := HVX.out.cell 1 (v := .slice x.ba x.bs.length x.bc) rfl
          have p2 := HVX.out.cell 2 (v := .slice x.ka x.ks.length x.kc) rfl
          clear hwb
          go_upto_region 9 with (at_builtin; refine appOneG (K := KF) rfl _ _ rfl BASE acc _ f (by rfl) (by rfl) HOX.out HOXb.out (by have := HOXl.out; show ((acc).length + 1) * 64 ≤ _; omega) (by have := HOXl.out; omega) _ rfl ?_; intro v1 w1 o1 b1 g1; have HO1 := (show Hid _ from o1); have HBB1 := (show Hid _ from b1); have HG1 := (show Hid _ from g1); obtain ⟨a1, c1, hv1, _⟩ := o1.form; generalize hn1 : (acc ++ [f]).length = n1 at hv1; subst hv1; clear o1 b1 g1 hn1)
          have HVX1 : Hid (VA w1 wr.heap.size x.cells 94) := (HVX.out.alloc _).grownN HG1.out (fun e => by have := HO.out.lt _ e; omega)
          have q0 := HVX1.out.cell 0 (v := .string ⟨x.nm.toArray⟩) rfl
          have q1 := HVX1.out.cell 1 (v := .slice x.ba x.bs.length x.bc) rfl
          have q2 := HVX1.out.cell 2 (v := .slice x.ka x.ks.length x.kc) rfl
          have fx := HF0.out _ (HB2.out.trans HBB1.out)
          have r0 := fx.cell 0 (v := .string ⟨f.nm.toArray⟩) rfl
          clear fx
          go_wp2_with fail
          go_roundw
          case rel => exact ⟨k + 1, acc ++ [f], true, by omega, by simp, rfl, ⟨_, _, _, rfl⟩, HO1.out, (by show (_ : List RF) ++ _ = _; have h1 := HEQ.out; rw [HDR.out, HST.out] at h1; simpa using h1), (show (_ : List RF).length ≤ 2 * (k + 1) by have := HLK.out; simp; omega), HB2.out.trans HBB1.out, (Nat.le_trans HOXb.out HBB1.out.size)⟩
          case measure => simp [intOf]; omega
        | true =>
          have hbl : Op.bytesLess x.nm f.nm = false := by rw [bytesLess_eq]; exact decide_eq_false (by rw [heq]; exact List.lt_irrefl _)
          have heb : (x.nm == f.nm) = true := by simp [heq]
          have HST : Hid (putL f true (x :: y.fs.drop (k + 1)) = putL f true (y.fs.drop (k + 1))) := by show putL f _ _ = _; simp [putL, heq, List.lt_irrefl]
          clear heq
          have HB1 : Hid (Below wr.heap.size wr (wr.alloc (.cells #[.string ⟨x.nm.toArray⟩, .slice x.ba x.bs.length x.bc, .slice x.ka x.ks.length x.kc] 94))) := (Below.refl wr.heap.size wr).alloc (Nat.le_refl _) _
          have HB2 : Hid (Below BASE w0 (wr.alloc (.cells #[.string ⟨x.nm.toArray⟩, .slice x.ba x.bs.length x.bc, .slice x.ka x.ks.length x.kc] 94))) := HB.out.trans (HB1.out.mono HBS.out)
          have HOX : Hid (Own KF (wr.alloc (.cells #[.string ⟨x.nm.toArray⟩, .slice x.ba x.bs.length x.bc, .slice x.ka x.ks.length x.kc] 94)) BASE (.slice la ln lc) acc) := HO.out.step HB1.out
          have HOXb : Hid (BASE ≤ (wr.alloc (.cells #[.string ⟨x.nm.toArray⟩, .slice x.ba x.bs.length x.bc, .slice x.ka x.ks.length x.kc] 94)).heap.size) := Nat.le_trans HBS.out HB1.out.size
          have HOXl : Hid (acc.length ≤ 128) := HL.out
          have HVX : Hid (VA (wr.alloc (.cells #[.string ⟨x.nm.toArray⟩, .slice x.ba x.bs.length x.bc, .slice x.ka x.ks.length x.kc] 94)) wr.heap.size x.cells 94) := va_new wr x.cells _
          have fx := HF0.out _ HB2.out
          have g0 := fx.cell 0 (v := .string ⟨f.nm.toArray⟩) rfl
          have g1 := fx.cell 1 (v := .slice f.ba f.bs.length f.bc) rfl
          have g2 := fx.cell 2 (v := .slice f.ka f.ks.length f.kc) rfl
          clear fx
          go_upto_region 6 with (refine wpList_load_mid rfl 94 _ rfl b (off + k * 3) (by rfl) _ _ HCL.out Try.underlying94 rfl infoF3 ?_)
          generalize hwb : wr.alloc (.cells #[.string ⟨x.nm.toArray⟩, .slice x.ba x.bs.length x.bc, .slice x.ka x.ks.length x.kc] 94) = wb at *
          have p0 := HVX.out.cell 0 (v := .string ⟨x.nm.toArray⟩) rfl
          have p1 := HVX.out.cell 1 (v := .slice x.ba x.bs.length x.bc) rfl
          have p2 := HVX.out.cell 2 (v := .slice x.ka x.ks.length x.kc) rfl
          clear hwb
          go_wp2_with fail
          go_roundw
          case rel => exact ⟨k + 1, acc, true, by omega, by simp, rfl, ⟨_, _, _, rfl⟩, HOX.out, (by show (_ : List RF) ++ _ = _; have h1 := HEQ.out; rw [HDR.out, HST.out] at h1; simpa using h1), (show (_ : List RF).length ≤ 2 * (k + 1) by have := HLK.out; simp; omega), HB2.out, HOXb.out⟩
          case measure => simp [intOf]; omega
      · by_cases hlt2 : x.nm < f.nm
        · cases dn with
          | false =>
            have hbl : Op.bytesLess x.nm f.nm = true := by rw [bytesLess_eq]; exact decide_eq_true hlt2
            have heb : (x.nm == f.nm) = false := beq_eq_false_iff_ne.2 heq
            have HST : Hid (putL f false (x :: y.fs.drop (k + 1)) = [x] ++ putL f false (y.fs.drop (k + 1))) := by show putL f _ _ = _; simp [putL, hlt2, heq]
            clear hlt2 heq
            have HB1 : Hid (Below wr.heap.size wr (wr.alloc (.cells #[.string ⟨x.nm.toArray⟩, .slice x.ba x.bs.length x.bc, .slice x.ka x.ks.length x.kc] 94))) := (Below.refl wr.heap.size wr).alloc (Nat.le_refl _) _
            have HB2 : Hid (Below BASE w0 (wr.alloc (.cells #[.string ⟨x.nm.toArray⟩, .slice x.ba x.bs.length x.bc, .slice x.ka x.ks.length x.kc] 94))) := HB.out.trans (HB1.out.mono HBS.out)
            have HOX : Hid (Own KF (wr.alloc (.cells #[.string ⟨x.nm.toArray⟩, .slice x.ba x.bs.length x.bc, .slice x.ka x.ks.length x.kc] 94)) BASE (.slice la ln lc) acc) := HO.out.step HB1.out
            have HOXb : Hid (BASE ≤ (wr.alloc (.cells #[.string ⟨x.nm.toArray⟩, .slice x.ba x.bs.length x.bc, .slice x.ka x.ks.length x.kc] 94)).heap.size) := Nat.le_trans HBS.out HB1.out.size
            have HOXl : Hid (acc.length ≤ 128) := HL.out
            have HVX : Hid (VA (wr.alloc (.cells #[.string ⟨x.nm.toArray⟩, .slice x.ba x.bs.length x.bc, .slice x.ka x.ks.length x.kc] 94)) wr.heap.size x.cells 94) := va_new wr x.cells _
            have fx := HF0.out _ HB2.out
            have g0 := fx.cell 0 (v := .string ⟨f.nm.toArray⟩) rfl
            have g1 := fx.cell 1 (v := .slice f.ba f.bs.length f.bc) rfl
            have g2 := fx.cell 2 (v := .slice f.ka f.ks.length f.kc) rfl
            clear fx
            go_upto_region 6 with (refine wpList_load_mid rfl 94 _ rfl b (off + k * 3) (by rfl) _ _ HCL.out Try.underlying94 rfl infoF3 ?_)
            generalize hwb : wr.alloc (.cells #[.string ⟨x.nm.toArray⟩, .slice x.ba x.bs.length x.bc, .slice x.ka x.ks.length x.kc] 94) = wb at *
            have p0 := HVX.out.cell 0 (v := .string ⟨x.nm.toArray⟩) rfl
            have p1 := HVX.out.cell 1 (v := .slice x.ba x.bs.length x.bc) rfl
            have p2 := HVX.out.cell 2 (v := .slice x.ka x.ks.length x.kc) rfl
            clear hwb
            go_wp2_with (at_builtin; refine appOneG (K := KF) rfl _ _ rfl BASE acc _ x (by rfl) (by rfl) HOX.out HOXb.out (by have := HOXl.out; show ((acc).length + 1) * 64 ≤ _; omega) (by have := HOXl.out; omega) _ rfl ?_; intro v1 w1 o1 b1 g1; have HO1 := (show Hid _ from o1); have HBB1 := (show Hid _ from b1); have HG1 := (show Hid _ from g1); obtain ⟨a1, c1, hv1, _⟩ := o1.form; generalize hn1 : (acc ++ [x]).length = n1 at hv1; subst hv1; clear o1 b1 g1 hn1)
            go_roundw
            case rel => exact ⟨k + 1, acc ++ [x], false, by omega, by simp, rfl, ⟨_, _, _, rfl⟩, HO1.out, (by show (_ : List RF) ++ _ = _; have h1 := HEQ.out; rw [HDR.out, HST.out] at h1; simpa using h1), (show (_ : List RF).length ≤ 2 * (k + 1) by have := HLK.out; simp; omega), HB2.out.trans HBB1.out, (Nat.le_trans HOXb.out HBB1.out.size)⟩
            case measure => simp [intOf]; omega
          | true =>
            have hbl : Op.bytesLess x.nm f.nm = true := by rw [bytesLess_eq]; exact decide_eq_true hlt2
            have heb : (x.nm == f.nm) = false := beq_eq_false_iff_ne.2 heq
            have HST : Hid (putL f true (x :: y.fs.drop (k + 1)) = [x] ++ putL f true (y.fs.drop (k + 1))) := by show putL f _ _ = _; simp [putL, hlt2, heq]
            clear hlt2 heq
            have HB1 : Hid (Below wr.heap.size wr (wr.alloc (.cells #[.string ⟨x.nm.toArray⟩, .slice x.ba x.bs.length x.bc, .slice x.ka x.ks.length x.kc] 94))) := (Below.refl wr.heap.size wr).alloc (Nat.le_refl _) _
            have HB2 : Hid (Below BASE w0 (wr.alloc (.cells #[.string ⟨x.nm.toArray⟩, .slice x.ba x.bs.length x.bc, .slice x.ka x.ks.length x.kc] 94))) := HB.out.trans (HB1.out.mono HBS.out)
            have HOX : Hid (Own KF (wr.alloc (.cells #[.string ⟨x.nm.toArray⟩, .slice x.ba x.bs.length x.bc, .slice x.ka x.ks.length x.kc] 94)) BASE (.slice la ln lc) acc) := HO.out.step HB1.out
            have HOXb : Hid (BASE ≤ (wr.alloc (.cells #[.string ⟨x.nm.toArray⟩, .slice x.ba x.bs.length x.bc, .slice x.ka x.ks.length x.kc] 94)).heap.size) := Nat.le_trans HBS.out HB1.out.size
            have HOXl : Hid (acc.length ≤ 128) := HL.out
            have HVX : Hid (VA (wr.alloc (.cells #[.string ⟨x.nm.toArray⟩, .slice x.ba x.bs.length x.bc, .slice x.ka x.ks.length x.kc] 94)) wr.heap.size x.cells 94) := va_new wr x.cells _
            have fx := HF0.out _ HB2.out
            have g0 := fx.cell 0 (v := .string ⟨f.nm.toArray⟩) rfl
            have g1 := fx.cell 1 (v := .slice f.ba f.bs.length f.bc) rfl
            have g2 := fx.cell 2 (v := .slice f.ka f.ks.length f.kc) rfl
            clear fx
            go_upto_region 6 with (refine wpList_load_mid rfl 94 _ rfl b (off + k * 3) (by rfl) _ _ HCL.out Try.underlying94 rfl infoF3 ?_)
            generalize hwb : wr.alloc (.cells #[.string ⟨x.nm.toArray⟩, .slice x.ba x.bs.length x.bc, .slice x.ka x.ks.length x.kc] 94) = wb at *
            have p0 := HVX.out.cell 0 (v := .string ⟨x.nm.toArray⟩) rfl
            have p1 := HVX.out.cell 1 (v := .slice x.ba x.bs.length x.bc) rfl
            have p2 := HVX.out.cell 2 (v := .slice x.ka x.ks.length x.kc) rfl
            clear hwb
            go_wp2_with (at_builtin; refine appOneG (K := KF) rfl _ _ rfl BASE acc _ x (by rfl) (by rfl) HOX.out HOXb.out (by have := HOXl.out; show ((acc).length + 1) * 64 ≤ _; omega) (by have := HOXl.out; omega) _ rfl ?_; intro v1 w1 o1 b1 g1; have HO1 := (show Hid _ from o1); have HBB1 := (show Hid _ from b1); have HG1 := (show Hid _ from g1); obtain ⟨a1, c1, hv1, _⟩ := o1.form; generalize hn1 : (acc ++ [x]).length = n1 at hv1; subst hv1; clear o1 b1 g1 hn1)
            go_roundw
            case rel => exact ⟨k + 1, acc ++ [x], true, by omega, by simp, rfl, ⟨_, _, _, rfl⟩, HO1.out, (by show (_ : List RF) ++ _ = _; have h1 := HEQ.out; rw [HDR.out, HST.out] at h1; simpa using h1), (show (_ : List RF).length ≤ 2 * (k + 1) by have := HLK.out; simp; omega), HB2.out.trans HBB1.out, (Nat.le_trans HOXb.out HBB1.out.size)⟩
            case measure => simp [intOf]; omega
        · cases dn with
          | false =>
            have hbl : Op.bytesLess x.nm f.nm = false := by rw [bytesLess_eq]; exact decide_eq_false hlt2
            have heb : (x.nm == f.nm) = false := beq_eq_false_iff_ne.2 heq
            have HST : Hid (putL f false (x :: y.fs.drop (k + 1)) = [f] ++ ([x] ++ putL f true (y.fs.drop (k + 1)))) := by show putL f _ _ = _; simp [putL, hlt2, heq]
            clear hlt2 heq
            have HB1 : Hid (Below wr.heap.size wr (wr.alloc (.cells #[.string ⟨x.nm.toArray⟩, .slice x.ba x.bs.length x.bc, .slice x.ka x.ks.length x.kc] 94))) := (Below.refl wr.heap.size wr).alloc (Nat.le_refl _) _
            have HB2 : Hid (Below BASE w0 (wr.alloc (.cells #[.string ⟨x.nm.toArray⟩, .slice x.ba x.bs.length x.bc, .slice x.ka x.ks.length x.kc] 94))) := HB.out.trans (HB1.out.mono HBS.out)
            have HOX : Hid (Own KF (wr.alloc (.cells #[.string ⟨x.nm.toArray⟩, .slice x.ba x.bs.length x.bc, .slice x.ka x.ks.length x.kc] 94)) BASE (.slice la ln lc) acc) := HO.out.step HB1.out
            have HOXb : Hid (BASE ≤ (wr.alloc (.cells #[.string ⟨x.nm.toArray⟩, .slice x.ba x.bs.length x.bc, .slice x.ka x.ks.length x.kc] 94)).heap.size) := Nat.le_trans HBS.out HB1.out.size
            have HOXl : Hid (acc.length ≤ 128) := HL.out
            have HVX : Hid (VA (wr.alloc (.cells #[.string ⟨x.nm.toArray⟩, .slice x.ba x.bs.length x.bc, .slice x.ka x.ks.length x.kc] 94)) wr.heap.size x.cells 94) := va_new wr x.cells _
            have fx := HF0.out _ HB2.out
            have g0 := fx.cell 0 (v := .string ⟨f.nm.toArray⟩) rfl
            have g1 := fx.cell 1 (v := .slice f.ba f.bs.length f.bc) rfl
            have g2 := fx.cell 2 (v := .slice f.ka f.ks.length f.kc) rfl
            clear fx
            go_upto_region 6 with (refine wpList_load_mid rfl 94 _ rfl b (off + k * 3) (by rfl) _ _ HCL.out Try.underlying94 rfl infoF3 ?_)
            generalize hwb : wr.alloc (.cells #[.string ⟨x.nm.toArray⟩, .slice x.ba x.bs.length x.bc, .slice x.ka x.ks.length x.kc] 94) = wb at *
            have p0 := HVX.out.cell 0 (v := .string ⟨x.nm.toArray⟩) rfl
            have p1 := HVX.out.cell 1 (v := .slice x.ba x.bs.length x.bc) rfl
            have p2 := HVX.out.cell 2 (v := .slice x.ka x.ks.length x.kc) rfl
            clear hwb
            go_upto_region 9 with (at_builtin; refine appOneG (K := KF) rfl _ _ rfl BASE acc _ f (by rfl) (by rfl) HOX.out HOXb.out (by have := HOXl.out; show ((acc).length + 1) * 64 ≤ _; omega) (by have := HOXl.out; omega) _ rfl ?_; intro v1 w1 o1 b1 g1; have HO1 := (show Hid _ from o1); have HBB1 := (show Hid _ from b1); have HG1 := (show Hid _ from g1); obtain ⟨a1, c1, hv1, _⟩ := o1.form; generalize hn1 : (acc ++ [f]).length = n1 at hv1; subst hv1; clear o1 b1 g1 hn1)
            have HOX2 : Hid (Own KF w1 BASE (.slice a1 n1 c1) (acc ++ [f])) := HO1.out
            have HOX2b : Hid (BASE ≤ w1.heap.size) := Nat.le_trans HOXb.out HBB1.out.size
            have HOX2l : Hid ((acc ++ [f]).length ≤ 129) := (show (acc ++ [f]).length ≤ 129 by have := HL.out; simp; omega)
            have HVX1 : Hid (VA w1 wr.heap.size x.cells 94) := (HVX.out.alloc _).grownN HG1.out (fun e => by have := HO.out.lt _ e; omega)
            have q0 := HVX1.out.cell 0 (v := .string ⟨x.nm.toArray⟩) rfl
            have q1 := HVX1.out.cell 1 (v := .slice x.ba x.bs.length x.bc) rfl
            have q2 := HVX1.out.cell 2 (v := .slice x.ka x.ks.length x.kc) rfl
            have fx := HF0.out _ (HB2.out.trans HBB1.out)
            have r0 := fx.cell 0 (v := .string ⟨f.nm.toArray⟩) rfl
            clear fx
            go_wp2_with (at_builtin; refine appOneG (K := KF) rfl _ _ rfl BASE (acc ++ [f]) _ x (by rfl) (by rfl) HOX2.out HOX2b.out (by have := HOX2l.out; show (((acc ++ [f])).length + 1) * 64 ≤ _; omega) (by have := HOX2l.out; omega) _ rfl ?_; intro v2 w2 o2 b2 g2; have HO2 := (show Hid _ from o2); have HBB2 := (show Hid _ from b2); have HG2 := (show Hid _ from g2); obtain ⟨a2, c2, hv2, _⟩ := o2.form; generalize hn2 : ((acc ++ [f]) ++ [x]).length = n2 at hv2; subst hv2; clear o2 b2 g2 hn2)
            go_roundw
            case rel => exact ⟨k + 1, acc ++ [f] ++ [x], true, by omega, by simp, rfl, ⟨_, _, _, rfl⟩, HO2.out, (by show (_ : List RF) ++ _ = _; have h1 := HEQ.out; rw [HDR.out, HST.out] at h1; simpa using h1), (show (_ : List RF).length ≤ 2 * (k + 1) by have := HLK.out; simp; omega), (HB2.out.trans HBB1.out).trans HBB2.out, (Nat.le_trans HOX2b.out HBB2.out.size)⟩
            case measure => simp [intOf]; omega
          | true =>
            have hbl : Op.bytesLess x.nm f.nm = false := by rw [bytesLess_eq]; exact decide_eq_false hlt2
            have heb : (x.nm == f.nm) = false := beq_eq_false_iff_ne.2 heq
            have HST : Hid (putL f true (x :: y.fs.drop (k + 1)) = [x] ++ putL f true (y.fs.drop (k + 1))) := by show putL f _ _ = _; simp [putL, hlt2, heq]
            clear hlt2 heq
            have HB1 : Hid (Below wr.heap.size wr (wr.alloc (.cells #[.string ⟨x.nm.toArray⟩, .slice x.ba x.bs.length x.bc, .slice x.ka x.ks.length x.kc] 94))) := (Below.refl wr.heap.size wr).alloc (Nat.le_refl _) _
            have HB2 : Hid (Below BASE w0 (wr.alloc (.cells #[.string ⟨x.nm.toArray⟩, .slice x.ba x.bs.length x.bc, .slice x.ka x.ks.length x.kc] 94))) := HB.out.trans (HB1.out.mono HBS.out)
            have HOX : Hid (Own KF (wr.alloc (.cells #[.string ⟨x.nm.toArray⟩, .slice x.ba x.bs.length x.bc, .slice x.ka x.ks.length x.kc] 94)) BASE (.slice la ln lc) acc) := HO.out.step HB1.out
            have HOXb : Hid (BASE ≤ (wr.alloc (.cells #[.string ⟨x.nm.toArray⟩, .slice x.ba x.bs.length x.bc, .slice x.ka x.ks.length x.kc] 94)).heap.size) := Nat.le_trans HBS.out HB1.out.size
            have HOXl : Hid (acc.length ≤ 128) := HL.out
            have HVX : Hid (VA (wr.alloc (.cells #[.string ⟨x.nm.toArray⟩, .slice x.ba x.bs.length x.bc, .slice x.ka x.ks.length x.kc] 94)) wr.heap.size x.cells 94) := va_new wr x.cells _
            have fx := HF0.out _ HB2.out
            have g0 := fx.cell 0 (v := .string ⟨f.nm.toArray⟩) rfl
            have g1 := fx.cell 1 (v := .slice f.ba f.bs.length f.bc) rfl
            have g2 := fx.cell 2 (v := .slice f.ka f.ks.length f.kc) rfl
            clear fx
            go_upto_region 6 with (refine wpList_load_mid rfl 94 _ rfl b (off + k * 3) (by rfl) _ _ HCL.out Try.underlying94 rfl infoF3 ?_)
            generalize hwb : wr.alloc (.cells #[.string ⟨x.nm.toArray⟩, .slice x.ba x.bs.length x.bc, .slice x.ka x.ks.length x.kc] 94) = wb at *
            have p0 := HVX.out.cell 0 (v := .string ⟨x.nm.toArray⟩) rfl
            have p1 := HVX.out.cell 1 (v := .slice x.ba x.bs.length x.bc) rfl
            have p2 := HVX.out.cell 2 (v := .slice x.ka x.ks.length x.kc) rfl
            clear hwb
            go_wp2_with (at_builtin; refine appOneG (K := KF) rfl _ _ rfl BASE acc _ x (by rfl) (by rfl) HOX.out HOXb.out (by have := HOXl.out; show ((acc).length + 1) * 64 ≤ _; omega) (by have := HOXl.out; omega) _ rfl ?_; intro v1 w1 o1 b1 g1; have HO1 := (show Hid _ from o1); have HBB1 := (show Hid _ from b1); have HG1 := (show Hid _ from g1); obtain ⟨a1, c1, hv1, _⟩ := o1.form; generalize hn1 : (acc ++ [x]).length = n1 at hv1; subst hv1; clear o1 b1 g1 hn1)
            go_roundw
            case rel => exact ⟨k + 1, acc ++ [x], true, by omega, by simp, rfl, ⟨_, _, _, rfl⟩, HO1.out, (by show (_ : List RF) ++ _ = _; have h1 := HEQ.out; rw [HDR.out, HST.out] at h1; simpa using h1), (show (_ : List RF).length ≤ 2 * (k + 1) by have := HLK.out; simp; omega), HB2.out.trans HBB1.out, (Nat.le_trans HOXb.out HBB1.out.size)⟩
            case measure => simp [intOf]; omega
    · obtain rfl : k = N := by omega
      have HDN : Hid (y.fs.drop k = []) := (show y.fs.drop k = [] from List.drop_eq_nil_of_le (by rw [HN.out]; exact Nat.le_refl _))
      have hlow : w.heap.size ≤ BASE := by have := HBASE.out.1; omega
      have hfin : ∀ (ws : World) (sa : Option Addr) (sn sc : Nat) (acc2 : List RF), Own KF ws BASE (.slice sa sn sc) acc2 → acc2 = putL f false y.fs → Below BASE w0 ws → RLp w (ws.setCell ⟨q, 0, none⟩ (.slice sa sn sc)) B q { y with fs := putL f false y.fs } := fun ws sa sn sc acc2 h1 h2 h3 => by
        subst h2
        have hv := HHD.out ws h3
        have u := upd_set ws q 0 (.slice sa sn sc)
        have kb : Below w.heap.size w ws := HB0.out.trans (h3.mono hlow)
        have kr : KeR w (ws.setCell ⟨q, 0, none⟩ (.slice sa sn sc)) := (KeR.bel kb).trans (KeR.upd u hv (.inl rfl))
        have hqB : q < BASE := by have := HBASE.out.1; omega
        refine ⟨⟨_, ⟨hv.set 0 _, (h1.upd u hqB).lower (Nat.le_trans HH.out.lt hlow), fun g hg => ?_, HH.out.lo, HC.out, HR.out, HH.out.room.2⟩, fun g hg => Nat.le_trans hlow (h1.block g hg)⟩, (below_but kb _).trans u.but (fun _ _ h => h)⟩
        rcases HAL.out g hg with rfl | hg
        · exact HRF.out.ker kr
        · exact (HH.out.fil g hg).ker kr
      have HFIN := (show Hid _ from hfin)
      clear hfin
      have hv := HHD.out wr HB.out
      have z0 := hv.cell 0 (v := .slice fa k fc) rfl
      have zf := hv.free 0
      cases dn with
      | true =>
        have HA2 : Hid (acc = putL f false y.fs) := (show acc = putL f false y.fs by have := HEQ.out; rw [HDN.out] at this; simpa [putL] using this)
        clear hv
        go_wp2_with fail
        go_end0
        exact ⟨⟨_, rfl⟩, HFIN.out _ _ _ _ acc HO.out HA2.out HB.out⟩
      | false =>
        have HA2 : Hid (acc ++ [f] = putL f false y.fs) := (show acc ++ [f] = putL f false y.fs by have := HEQ.out; rw [HDN.out] at this; simpa [putL] using this)
        have HOb : Hid (BASE ≤ wr.heap.size) := HBS.out
        have HOl : Hid (acc.length ≤ 128) := HL.out
        have fx := HF0.out wr HB.out
        have g0 := fx.cell 0 (v := .string ⟨f.nm.toArray⟩) rfl
        have g1 := fx.cell 1 (v := .slice f.ba f.bs.length f.bc) rfl
        have g2 := fx.cell 2 (v := .slice f.ka f.ks.length f.kc) rfl
        clear hv fx z0 zf
        go_upto_region 14 with (at_builtin; refine appOneG (K := KF) rfl _ _ rfl BASE acc _ f (by rfl) (by rfl) HO.out HOb.out (by have := HOl.out; show ((acc).length + 1) * 64 ≤ _; omega) (by have := HOl.out; omega) _ rfl ?_; intro v1 w1 o1 b1 g1; have HO1 := (show Hid _ from o1); have HBB1 := (show Hid _ from b1); have HG1 := (show Hid _ from g1); obtain ⟨a1, c1, hv1, _⟩ := o1.form; generalize hn1 : (acc ++ [f]).length = n1 at hv1; subst hv1; clear o1 b1 g1 hn1)
        have hv := HHD.out w1 (HB.out.trans HBB1.out)
        have z0 := hv.cell 0 (v := .slice fa k fc) rfl
        have zf := hv.free 0
        clear hv
        go_wp2_with fail
        go_end0
        exact ⟨⟨_, rfl⟩, HFIN.out _ _ _ _ (acc ++ [f]) HO1.out HA2.out (HB.out.trans HBB1.out)⟩
end Go.Proofs.Ytakgkpiicigihaa
/- disk XLII: the document's drop, Name. -/
namespace Go.Proofs.Ytakgkpiicigihaa
open Go.RowKit Go.Maps Go.Sort Go.Shelf pk
set_option linter.unusedVariables false
set_option linter.unusedSimpArgs false

theorem rtot_filter (P : RF → Bool) (fs : List RF) : rtot (fs.filter P) ≤ rtot fs := by
  induction fs with
  | nil => exact Nat.le_refl _
  | cons e es ih =>
    rw [List.filter_cons]
    split <;> simp only [rtot] <;> omega
set_option maxRecDepth 100000 in
set_option maxHeartbeats 4000000 in
theorem drop_ok (w : World) (B q : Nat) (fv : Value) (y : RK) (h : RD w B q fv y) (s : ByteArray) :
    Calls Try.prog 69 #[ptr q, .string s] w fun r w' => (∃ v, r = .returned v) ∧ RLp w w' B q { y with fs := y.fs.filter (fun g => decide (g.nm ≠ s.data.toList)) } := by
  obtain ⟨fa, fc, hfv, hc1, hc2⟩ := h.row.form
  subst hfv
  have HH := (show Hid _ from h)
  obtain ⟨FL, hFL⟩ : ∃ FL, FL = y.fs.filter (fun g => decide (g.nm ≠ s.data.toList)) := ⟨_, rfl⟩
  have HFL := (show Hid _ from hFL)
  rw [← hFL]
  clear hFL
  have hcnt := h.cnt
  generalize hN : y.fs.length = N at *
  have HN := (show Hid _ from hN)
  have hlq := h.va.lt
  have y0 := h.va.cell 0 (v := .slice fa N fc) (by rw [← hN]; rfl)
  obtain ⟨BASE, hbase⟩ : ∃ n, n = w.heap.size := ⟨_, rfl⟩
  obtain ⟨w0, hw0⟩ : ∃ w0, w0 = w := ⟨_, rfl⟩
  have HSL : Hid (∀ w', Below BASE w0 w' → Sl KF w' (.slice fa N fc) y.fs) := fun w' h => by subst hw0 hbase; exact HH.out.row.sl.step h
  have HHD : Hid (∀ w', Below BASE w0 w' → VA w' q (y.cells (.slice fa N fc)) 66) := fun w' h => by subst hw0 hbase; exact HH.out.va.step h
  have HBASE : Hid (BASE = w.heap.size ∧ w0 = w) := ⟨hbase, hw0⟩
  have hp : (ptr q) = .pointer (some ⟨q, 0, none⟩) := rfl
  rw [hp]
  clear h hN hbase hw0
  go_enter Try.func69, Try.ntmps69
  go_wp2_with fail
  go_loopw [4, 12] (fun l i wr => ∃ (k : Nat) (acc : List RF), k ≤ N ∧ i = .int .i64 (k : Int) ∧ (∃ la ln lc, l = .slice la ln lc) ∧ Hid (Own KF wr BASE l acc) ∧ Hid (acc ++ (y.fs.drop k).filter (fun g => decide (g.nm ≠ s.data.toList)) = FL) ∧ Hid (acc.length ≤ 2 * k) ∧ Hid (Below BASE w0 wr) ∧ Hid (BASE ≤ wr.heap.size)) (fun _ i _ => N - (intOf i).toNat)
  case atStart => exact ⟨0, [], Nat.zero_le _, rfl, ⟨_, _, _, rfl⟩, own_nil _ _ _, (by show [] ++ (y.fs.drop 0).filter _ = _; rw [List.drop_zero, HFL.out]; rfl), Nat.zero_le _, (by show Below BASE w0 w; rw [HBASE.out.2]; exact Below.refl _ _), Nat.le_of_eq HBASE.out.1⟩
  case round =>
    obtain ⟨k, acc, hk, rfl, ⟨la, ln, lc, rfl⟩, HO, HEQ, HLK, HB, HBS⟩ := hrel
    have HL : Hid (acc.length ≤ 128) := (show acc.length ≤ 128 by have := HLK.out; omega)
    by_cases hlt : k < N
    · have dk : (k : Int) < (N : Int) := by omega
      have hkl : k < y.fs.length := by rw [HN.out]; exact hlt
      obtain ⟨x, hx⟩ : ∃ x, x = y.fs[k] := ⟨_, rfl⟩
      have HDR : Hid (y.fs.drop k = x :: y.fs.drop (k + 1)) := (show y.fs.drop k = x :: y.fs.drop (k + 1) by rw [hx]; exact (List.getElem_cons_drop hkl).symm)
      obtain ⟨b, off, rfl, hbl, hcell⟩ := (HSL.out wr HB.out).at k x (by rw [hx]; exact List.getElem?_eq_getElem hkl)
      have HCL : Hid (∀ j u, x.cells[j]? = some u → wr.cell? ⟨b, off + k * 3 + j, none⟩ = some u) := hcell
      clear hcell hx
      unfold RF.cells RF.bv RF.kv at HCL
      by_cases heq : x.nm = s.toList
      · have heb : (x.nm == s.toList) = true := by simp [heq]
        have HST : Hid ((x :: y.fs.drop (k + 1)).filter (fun g => decide (g.nm ≠ s.data.toList)) = (y.fs.drop (k + 1)).filter (fun g => decide (g.nm ≠ s.data.toList))) := by show List.filter _ _ = _; rw [ByteArray.toList_eq] at heq; simp [heq]
        clear heq
        have HB1 : Hid (Below wr.heap.size wr (wr.alloc (.cells #[.string ⟨x.nm.toArray⟩, .slice x.ba x.bs.length x.bc, .slice x.ka x.ks.length x.kc] 94))) := (Below.refl wr.heap.size wr).alloc (Nat.le_refl _) _
        have HB2 : Hid (Below BASE w0 (wr.alloc (.cells #[.string ⟨x.nm.toArray⟩, .slice x.ba x.bs.length x.bc, .slice x.ka x.ks.length x.kc] 94))) := HB.out.trans (HB1.out.mono HBS.out)
        have HOX : Hid (Own KF (wr.alloc (.cells #[.string ⟨x.nm.toArray⟩, .slice x.ba x.bs.length x.bc, .slice x.ka x.ks.length x.kc] 94)) BASE (.slice la ln lc) acc) := HO.out.step HB1.out
        have HOXb : Hid (BASE ≤ (wr.alloc (.cells #[.string ⟨x.nm.toArray⟩, .slice x.ba x.bs.length x.bc, .slice x.ka x.ks.length x.kc] 94)).heap.size) := Nat.le_trans HBS.out HB1.out.size
        have HOXl : Hid (acc.length ≤ 128) := HL.out
        have HVX : Hid (VA (wr.alloc (.cells #[.string ⟨x.nm.toArray⟩, .slice x.ba x.bs.length x.bc, .slice x.ka x.ks.length x.kc] 94)) wr.heap.size x.cells 94) := va_new wr x.cells _
        go_upto_region 4 with (refine wpList_load_mid rfl 94 _ rfl b (off + k * 3) (by rfl) _ _ HCL.out Try.underlying94 rfl infoF3 ?_)
        generalize hwb : wr.alloc (.cells #[.string ⟨x.nm.toArray⟩, .slice x.ba x.bs.length x.bc, .slice x.ka x.ks.length x.kc] 94) = wb at *
        have p0 := HVX.out.cell 0 (v := .string ⟨x.nm.toArray⟩) rfl
        have p1 := HVX.out.cell 1 (v := .slice x.ba x.bs.length x.bc) rfl
        have p2 := HVX.out.cell 2 (v := .slice x.ka x.ks.length x.kc) rfl
        clear hwb
        go_wp2_with fail
        go_roundw
        case rel => exact ⟨k + 1, acc, by omega, by simp, ⟨_, _, _, rfl⟩, HOX.out, (by show (_ : List RF) ++ _ = _; have h1 := HEQ.out; rw [HDR.out, HST.out] at h1; simpa using h1), (show (_ : List RF).length ≤ 2 * (k + 1) by have := HLK.out; simp; omega), HB2.out, HOXb.out⟩
        case measure => simp [intOf]; omega
      · have heb : (x.nm == s.toList) = false := beq_eq_false_iff_ne.2 heq
        have HST : Hid ((x :: y.fs.drop (k + 1)).filter (fun g => decide (g.nm ≠ s.data.toList)) = [x] ++ (y.fs.drop (k + 1)).filter (fun g => decide (g.nm ≠ s.data.toList))) := by show List.filter _ _ = _; rw [ByteArray.toList_eq] at heq; simp [heq]
        clear heq
        have HB1 : Hid (Below wr.heap.size wr (wr.alloc (.cells #[.string ⟨x.nm.toArray⟩, .slice x.ba x.bs.length x.bc, .slice x.ka x.ks.length x.kc] 94))) := (Below.refl wr.heap.size wr).alloc (Nat.le_refl _) _
        have HB2 : Hid (Below BASE w0 (wr.alloc (.cells #[.string ⟨x.nm.toArray⟩, .slice x.ba x.bs.length x.bc, .slice x.ka x.ks.length x.kc] 94))) := HB.out.trans (HB1.out.mono HBS.out)
        have HOX : Hid (Own KF (wr.alloc (.cells #[.string ⟨x.nm.toArray⟩, .slice x.ba x.bs.length x.bc, .slice x.ka x.ks.length x.kc] 94)) BASE (.slice la ln lc) acc) := HO.out.step HB1.out
        have HOXb : Hid (BASE ≤ (wr.alloc (.cells #[.string ⟨x.nm.toArray⟩, .slice x.ba x.bs.length x.bc, .slice x.ka x.ks.length x.kc] 94)).heap.size) := Nat.le_trans HBS.out HB1.out.size
        have HOXl : Hid (acc.length ≤ 128) := HL.out
        have HVX : Hid (VA (wr.alloc (.cells #[.string ⟨x.nm.toArray⟩, .slice x.ba x.bs.length x.bc, .slice x.ka x.ks.length x.kc] 94)) wr.heap.size x.cells 94) := va_new wr x.cells _
        go_upto_region 4 with (refine wpList_load_mid rfl 94 _ rfl b (off + k * 3) (by rfl) _ _ HCL.out Try.underlying94 rfl infoF3 ?_)
        generalize hwb : wr.alloc (.cells #[.string ⟨x.nm.toArray⟩, .slice x.ba x.bs.length x.bc, .slice x.ka x.ks.length x.kc] 94) = wb at *
        have p0 := HVX.out.cell 0 (v := .string ⟨x.nm.toArray⟩) rfl
        have p1 := HVX.out.cell 1 (v := .slice x.ba x.bs.length x.bc) rfl
        have p2 := HVX.out.cell 2 (v := .slice x.ka x.ks.length x.kc) rfl
        clear hwb
        go_wp2_with (at_builtin; refine appOneG (K := KF) rfl _ _ rfl BASE acc _ x (by rfl) (by rfl) HOX.out HOXb.out (by have := HOXl.out; show ((acc).length + 1) * 64 ≤ _; omega) (by have := HOXl.out; omega) _ rfl ?_; intro v1 w1 o1 b1 g1; have HO1 := (show Hid _ from o1); have HBB1 := (show Hid _ from b1); have HG1 := (show Hid _ from g1); obtain ⟨a1, c1, hv1, _⟩ := o1.form; generalize hn1 : (acc ++ [x]).length = n1 at hv1; subst hv1; clear o1 b1 g1 hn1)
        go_roundw
        case rel => exact ⟨k + 1, acc ++ [x], by omega, by simp, ⟨_, _, _, rfl⟩, HO1.out, (by show (_ : List RF) ++ _ = _; have h1 := HEQ.out; rw [HDR.out, HST.out] at h1; simpa using h1), (show (_ : List RF).length ≤ 2 * (k + 1) by have := HLK.out; simp; omega), HB2.out.trans HBB1.out, (Nat.le_trans HOXb.out HBB1.out.size)⟩
        case measure => simp [intOf]; omega
    · obtain rfl : k = N := by omega
      have HDN : Hid (y.fs.drop k = []) := (show y.fs.drop k = [] from List.drop_eq_nil_of_le (by rw [HN.out]; exact Nat.le_refl _))
      have hv := HHD.out wr HB.out
      have z0 := hv.cell 0 (v := .slice fa k fc) rfl
      have zf := hv.free 0
      have HA2 : Hid (acc = FL) := (show acc = FL by have := HEQ.out; rw [HDN.out] at this; simpa using this)
      clear hv
      go_wp2_with fail
      go_end0
      refine ⟨⟨_, rfl⟩, ?_⟩
      have hv := HHD.out wr HB.out
      have u := upd_set wr q 0 (.slice la ln lc)
      have kb : Below w.heap.size w wr := by
        have := HB.out
        rw [HBASE.out.2, HBASE.out.1] at this
        exact this
      have kr : KeR w (wr.setCell ⟨q, 0, none⟩ (.slice la ln lc)) := (KeR.bel kb).trans (KeR.upd u hv (.inl rfl))
      have hqB : q < BASE := by rw [HBASE.out.1]; exact hlq
      have ho := HO.out
      rw [HA2.out] at ho
      refine ⟨⟨_, ⟨hv.set 0 _, (ho.upd u hqB).lower (by rw [HBASE.out.1]; exact HH.out.lt), fun g hg => ?_, HH.out.lo, ?_, ?_, HH.out.room.2⟩, fun g hg => (by rw [← HBASE.out.1]; exact ho.block g hg)⟩, (below_but kb _).trans u.but (fun _ _ h => h)⟩
      · have hg' : g ∈ FL := hg
        rw [HFL.out] at hg'
        exact (HH.out.fil g (List.mem_filter.1 hg').1).ker kr
      · show FL.length ≤ 64
        rw [HFL.out]
        exact Nat.le_trans (List.length_filter_le _ _) HH.out.cnt
      · show rtot FL ≤ y.room
        rw [HFL.out]
        exact Nat.le_trans (rtot_filter _ _) HH.out.room.1
set_option maxRecDepth 100000 in
set_option maxHeartbeats 2000000 in
theorem rname_ok (s : ByteArray) (w : World) (hs : s.size ≤ 9223372036854775807) : Calls Try.prog 55 #[.string s] w fun e w' => e = .returned (.bool (isNm s.data.toList)) ∧ Below w.heap.size w w' := by
  have hl : s.data.toList.length = s.size := by cases s; rfl
  by_cases h1 : s.size < 1
  · have e : isNm s.data.toList = false := by unfold isNm; rw [hl]; simp; omega
    have d : (s.size : Int) < 1 := by omega
    rw [e]
    go_enter Try.func55, Try.ntmps55
    go_wp2
    go_ret
    exact ⟨rfl, Below.refl _ _⟩
  · by_cases h2 : 16 < s.size
    · have e : isNm s.data.toList = false := by unfold isNm; rw [hl]; simp; omega
      have d : 1 ≤ (s.size : Int) := by omega
      have d2 : 16 < (s.size : Int) := by omega
      rw [e]
      go_enter Try.func55, Try.ntmps55
      go_wp2
      go_ret
      exact ⟨rfl, Below.refl _ _⟩
    · have d : 1 ≤ (s.size : Int) := by omega
      have d2 : (s.size : Int) ≤ 16 := by omega
      have hfin : isNm s.data.toList = s.data.toList.all okc := by unfold isNm; rw [hl, decide_eq_true (by omega), decide_eq_true (by omega)]; rfl
      obtain ⟨R, hR⟩ : ∃ R, R = s.data.toList.all okc := ⟨_, rfl⟩
      rw [hfin, ← hR]
      have HR := (show Hid _ from hR)
      clear hR
      have HL := (show Hid _ from hl)
      clear hl hfin
      go_enter Try.func55, Try.ntmps55
      go_wp2
      go_loopw [3] (fun i wr => ∃ k : Nat, k ≤ s.size ∧ i = .int .i64 (k : Int) ∧ Hid (∀ c ∈ s.data.toList.take k, okc c = true) ∧ Hid (Below w.heap.size w wr)) (fun i _ => (s.size - intOf i).toNat)
      case atStart => exact ⟨0, Nat.zero_le _, rfl, fun c hc => by simp at hc, Below.refl _ _⟩
      case round =>
        obtain ⟨k, hk, rfl, hc, HB⟩ := hrel
        by_cases hlt : k < s.size
        · obtain ⟨c, hcc⟩ : ∃ c, c = s[k]'hlt := ⟨_, rfl⟩
          have hx : s.data.toList[k]? = some c := by rw [Array.getElem?_toList, hcc]; exact Array.getElem?_eq_getElem hlt
          have hidx : ∀ w : World, (Instr.index 9 (.string s) (.int .i64 (k : Int))).run Try.prog w = .ok (.int .u8 (c.toNat : Int)) w := fun w => by
            rw [run_index_string w 9 s .i64 (k : Int) Try.underlying9, dif_pos (by omega), hcc]
            simp
          have HX := (show Hid _ from hx)
          have HOK := (show Hid _ from okc_iff c)
          have dk : (k : Int) < (s.size : Int) := by omega
          have HBd : Hid (Below w.heap.size w wr.drew) := HB.out.drew
          clear hx hcc
          generalize hC : (c.toNat : Int) = C at *
          have good : (okc c = true) → ∀ x ∈ s.data.toList.take (k + 1), okc x = true := fun ho x hx => by
            rw [List.take_add_one, HX.out] at hx
            rcases List.mem_append.1 hx with hx | hx
            · exact hc.out x hx
            · simp at hx; rw [hx]; exact ho
          have bad : (okc c = false) → s.data.toList.all okc = false := fun ho => by
            rw [List.all_eq_false]
            exact ⟨c, List.mem_of_getElem? HX.out, by simp [ho]⟩
          have HG := (show Hid _ from good)
          have HBA := (show Hid _ from bad)
          clear good bad
          by_cases c1 : 97 ≤ C
          · by_cases c2 : C ≤ 122
            · have c3 : 48 ≤ C := by omega
              have c4 : 57 < C := by omega
              go_wp2_with fail
              refine wp_region_noPanic ?_
              refine wp_region_held_drew (S := fun V => True) (by kernel_rfl) trivial ?_
              intro hHeld
              generalize wr.drew = wd at *
              refine takeD 0 20 (.string s) (by exact rfl) rfl (by kernel_rfl) (by kernel_rfl) (by kernel_rfl) (fun _ _ _ h => h) (Or.inl ⟨by rfl, ?_⟩) (by assumption) ?_
              · intro wq hS
                have hi := hidx wq
                go_simp
              try simp only [Act.put, List.setIfInBounds_toArray, List.set_cons_zero, List.set_cons_succ]
              refine takeD 1 21 (.int .i64 (k : Int)) (by exact rfl) rfl (by kernel_rfl) (by kernel_rfl) (by kernel_rfl) (fun _ _ _ h => h) (Or.inl ⟨by rfl, ?_⟩) (by assumption) ?_
              · intro wq hS
                have hi := hidx wq
                go_simp
              try simp only [Act.put, List.setIfInBounds_toArray, List.set_cons_zero, List.set_cons_succ]
              refine takeD 2 22 (.int .u8 C) (by exact rfl) rfl (by kernel_rfl) (by kernel_rfl) (by kernel_rfl) (fun _ _ _ h => h) (Or.inl ⟨by rfl, ?_⟩) (by assumption) ?_
              · intro wq hS
                have hi := hidx wq
                go_simp
              try simp only [Act.put, List.setIfInBounds_toArray, List.set_cons_zero, List.set_cons_succ]
              refine takeD 3 23 (.bool true) (by exact rfl) rfl (by kernel_rfl) (by kernel_rfl) (by kernel_rfl) (fun _ _ _ h => h) (Or.inl ⟨by rfl, ?_⟩) (by assumption) ?_
              · intro wq hS
                have hi := hidx wq
                go_simp
              try simp only [Act.put, List.setIfInBounds_toArray, List.set_cons_zero, List.set_cons_succ]
              refine takeD 4 24 (.bool true) (by exact rfl) rfl (by kernel_rfl) (by kernel_rfl) (by kernel_rfl) (fun _ _ _ h => h) (Or.inl ⟨by rfl, ?_⟩) (by assumption) ?_
              · intro wq hS
                have hi := hidx wq
                go_simp
              try simp only [Act.put, List.setIfInBounds_toArray, List.set_cons_zero, List.set_cons_succ]
              refine takeD 5 25 (.string s) (by exact rfl) rfl (by kernel_rfl) (by kernel_rfl) (by kernel_rfl) (fun _ _ _ h => h) (Or.inl ⟨by rfl, ?_⟩) (by assumption) ?_
              · intro wq hS
                have hi := hidx wq
                go_simp
              try simp only [Act.put, List.setIfInBounds_toArray, List.set_cons_zero, List.set_cons_succ]
              refine takeD 6 26 (.int .i64 (k : Int)) (by exact rfl) rfl (by kernel_rfl) (by kernel_rfl) (by kernel_rfl) (fun _ _ _ h => h) (Or.inl ⟨by rfl, ?_⟩) (by assumption) ?_
              · intro wq hS
                have hi := hidx wq
                go_simp
              try simp only [Act.put, List.setIfInBounds_toArray, List.set_cons_zero, List.set_cons_succ]
              refine takeD 7 27 (.int .u8 C) (by exact rfl) rfl (by kernel_rfl) (by kernel_rfl) (by kernel_rfl) (fun _ _ _ h => h) (Or.inl ⟨by rfl, ?_⟩) (by assumption) ?_
              · intro wq hS
                have hi := hidx wq
                go_simp
              try simp only [Act.put, List.setIfInBounds_toArray, List.set_cons_zero, List.set_cons_succ]
              refine takeD 8 28 (.bool true) (by exact rfl) rfl (by kernel_rfl) (by kernel_rfl) (by kernel_rfl) (fun _ _ _ h => h) (Or.inl ⟨by rfl, ?_⟩) (by assumption) ?_
              · intro wq hS
                have hi := hidx wq
                go_simp
              try simp only [Act.put, List.setIfInBounds_toArray, List.set_cons_zero, List.set_cons_succ]
              refine takeD 9 29 (.bool true) (by exact rfl) rfl (by kernel_rfl) (by kernel_rfl) (by kernel_rfl) (fun _ _ _ h => h) (Or.inl ⟨by rfl, ?_⟩) (by assumption) ?_
              · intro wq hS
                have hi := hidx wq
                go_simp
              try simp only [Act.put, List.setIfInBounds_toArray, List.set_cons_zero, List.set_cons_succ]
              refine takeD 10 30 (.string s) (by exact rfl) rfl (by kernel_rfl) (by kernel_rfl) (by kernel_rfl) (fun _ _ _ h => h) (Or.inl ⟨by rfl, ?_⟩) (by assumption) ?_
              · intro wq hS
                have hi := hidx wq
                go_simp
              try simp only [Act.put, List.setIfInBounds_toArray, List.set_cons_zero, List.set_cons_succ]
              refine takeD 11 31 (.int .i64 (k : Int)) (by exact rfl) rfl (by kernel_rfl) (by kernel_rfl) (by kernel_rfl) (fun _ _ _ h => h) (Or.inl ⟨by rfl, ?_⟩) (by assumption) ?_
              · intro wq hS
                have hi := hidx wq
                go_simp
              try simp only [Act.put, List.setIfInBounds_toArray, List.set_cons_zero, List.set_cons_succ]
              refine takeD 12 32 (.int .u8 C) (by exact rfl) rfl (by kernel_rfl) (by kernel_rfl) (by kernel_rfl) (fun _ _ _ h => h) (Or.inl ⟨by rfl, ?_⟩) (by assumption) ?_
              · intro wq hS
                have hi := hidx wq
                go_simp
              try simp only [Act.put, List.setIfInBounds_toArray, List.set_cons_zero, List.set_cons_succ]
              refine takeD 13 33 (.bool true) (by exact rfl) rfl (by kernel_rfl) (by kernel_rfl) (by kernel_rfl) (fun _ _ _ h => h) (Or.inl ⟨by rfl, ?_⟩) (by assumption) ?_
              · intro wq hS
                have hi := hidx wq
                go_simp
              try simp only [Act.put, List.setIfInBounds_toArray, List.set_cons_zero, List.set_cons_succ]
              refine takeD 14 34 (.bool true) (by exact rfl) rfl (by kernel_rfl) (by kernel_rfl) (by kernel_rfl) (fun _ _ _ h => h) (Or.inl ⟨by rfl, ?_⟩) (by assumption) ?_
              · intro wq hS
                have hi := hidx wq
                go_simp
              try simp only [Act.put, List.setIfInBounds_toArray, List.set_cons_zero, List.set_cons_succ]
              refine takeD 15 35 (.string s) (by exact rfl) rfl (by kernel_rfl) (by kernel_rfl) (by kernel_rfl) (fun _ _ _ h => h) (Or.inl ⟨by rfl, ?_⟩) (by assumption) ?_
              · intro wq hS
                have hi := hidx wq
                go_simp
              try simp only [Act.put, List.setIfInBounds_toArray, List.set_cons_zero, List.set_cons_succ]
              refine takeD 16 36 (.int .i64 (k : Int)) (by exact rfl) rfl (by kernel_rfl) (by kernel_rfl) (by kernel_rfl) (fun _ _ _ h => h) (Or.inl ⟨by rfl, ?_⟩) (by assumption) ?_
              · intro wq hS
                have hi := hidx wq
                go_simp
              try simp only [Act.put, List.setIfInBounds_toArray, List.set_cons_zero, List.set_cons_succ]
              refine takeD 17 37 (.int .u8 C) (by exact rfl) rfl (by kernel_rfl) (by kernel_rfl) (by kernel_rfl) (fun _ _ _ h => h) (Or.inl ⟨by rfl, ?_⟩) (by assumption) ?_
              · intro wq hS
                have hi := hidx wq
                go_simp
              try simp only [Act.put, List.setIfInBounds_toArray, List.set_cons_zero, List.set_cons_succ]
              refine takeD 18 38 (.bool false) (by exact rfl) rfl (by kernel_rfl) (by kernel_rfl) (by kernel_rfl) (fun _ _ _ h => h) (Or.inl ⟨by rfl, ?_⟩) (by assumption) ?_
              · intro wq hS
                have hi := hidx wq
                go_simp
              try simp only [Act.put, List.setIfInBounds_toArray, List.set_cons_zero, List.set_cons_succ]
              refine takeD 19 39 (.bool false) (by exact rfl) rfl (by kernel_rfl) (by kernel_rfl) (by kernel_rfl) (fun _ _ _ h => h) (Or.inl ⟨by rfl, ?_⟩) (by assumption) ?_
              · intro wq hS
                have hi := hidx wq
                go_simp
              try simp only [Act.put, List.setIfInBounds_toArray, List.set_cons_zero, List.set_cons_succ]
              refine takeD 20 4 (.bool true) (by exact rfl) rfl (by kernel_rfl) (by kernel_rfl) (by kernel_rfl) (fun _ _ _ h => h) (Or.inl ⟨by rfl, ?_⟩) (by assumption) ?_
              · intro wq hS
                have hi := hidx wq
                go_simp
              try simp only [Act.put, List.setIfInBounds_toArray, List.set_cons_zero, List.set_cons_succ]
              refine takeD 21 5 (.bool false) (by exact rfl) rfl (by kernel_rfl) (by kernel_rfl) (by kernel_rfl) (fun _ _ _ h => h) (Or.inl ⟨by rfl, ?_⟩) (by assumption) ?_
              · intro wq hS
                have hi := hidx wq
                go_simp
              try simp only [Act.put, List.setIfInBounds_toArray, List.set_cons_zero, List.set_cons_succ]
              refine wpAnyH_done (by kernel_rfl) ?_ _
              refine NoPanic.normal ?_
              clear hHeld
              go_wp2_with fail
              go_roundw
              case rel => exact ⟨k + 1, hlt, by simp, HG.out (HOK.out.2 (.inl ⟨c1, c2⟩)), HBd.out⟩
              case measure => simp [intOf]; omega
            · have ho : okc c = false := by
                rcases hh : okc c with _ | _
                · rfl
                · have := HOK.out.1 hh; omega
              have c3 : 48 ≤ C := by omega
              have c4 : 57 < C := by omega
              have c5 : 122 < C := by omega
              go_wp2_with fail
              refine wp_region_noPanic ?_
              refine wp_region_held_drew (S := fun V => True) (by kernel_rfl) trivial ?_
              intro hHeld
              generalize wr.drew = wd at *
              refine takeD 0 20 (.string s) (by exact rfl) rfl (by kernel_rfl) (by kernel_rfl) (by kernel_rfl) (fun _ _ _ h => h) (Or.inl ⟨by rfl, ?_⟩) (by assumption) ?_
              · intro wq hS
                have hi := hidx wq
                go_simp
              try simp only [Act.put, List.setIfInBounds_toArray, List.set_cons_zero, List.set_cons_succ]
              refine takeD 1 21 (.int .i64 (k : Int)) (by exact rfl) rfl (by kernel_rfl) (by kernel_rfl) (by kernel_rfl) (fun _ _ _ h => h) (Or.inl ⟨by rfl, ?_⟩) (by assumption) ?_
              · intro wq hS
                have hi := hidx wq
                go_simp
              try simp only [Act.put, List.setIfInBounds_toArray, List.set_cons_zero, List.set_cons_succ]
              refine takeD 2 22 (.int .u8 C) (by exact rfl) rfl (by kernel_rfl) (by kernel_rfl) (by kernel_rfl) (fun _ _ _ h => h) (Or.inl ⟨by rfl, ?_⟩) (by assumption) ?_
              · intro wq hS
                have hi := hidx wq
                go_simp
              try simp only [Act.put, List.setIfInBounds_toArray, List.set_cons_zero, List.set_cons_succ]
              refine takeD 3 23 (.bool true) (by exact rfl) rfl (by kernel_rfl) (by kernel_rfl) (by kernel_rfl) (fun _ _ _ h => h) (Or.inl ⟨by rfl, ?_⟩) (by assumption) ?_
              · intro wq hS
                have hi := hidx wq
                go_simp
              try simp only [Act.put, List.setIfInBounds_toArray, List.set_cons_zero, List.set_cons_succ]
              refine takeD 4 24 (.bool true) (by exact rfl) rfl (by kernel_rfl) (by kernel_rfl) (by kernel_rfl) (fun _ _ _ h => h) (Or.inl ⟨by rfl, ?_⟩) (by assumption) ?_
              · intro wq hS
                have hi := hidx wq
                go_simp
              try simp only [Act.put, List.setIfInBounds_toArray, List.set_cons_zero, List.set_cons_succ]
              refine takeD 5 25 (.string s) (by exact rfl) rfl (by kernel_rfl) (by kernel_rfl) (by kernel_rfl) (fun _ _ _ h => h) (Or.inl ⟨by rfl, ?_⟩) (by assumption) ?_
              · intro wq hS
                have hi := hidx wq
                go_simp
              try simp only [Act.put, List.setIfInBounds_toArray, List.set_cons_zero, List.set_cons_succ]
              refine takeD 6 26 (.int .i64 (k : Int)) (by exact rfl) rfl (by kernel_rfl) (by kernel_rfl) (by kernel_rfl) (fun _ _ _ h => h) (Or.inl ⟨by rfl, ?_⟩) (by assumption) ?_
              · intro wq hS
                have hi := hidx wq
                go_simp
              try simp only [Act.put, List.setIfInBounds_toArray, List.set_cons_zero, List.set_cons_succ]
              refine takeD 7 27 (.int .u8 C) (by exact rfl) rfl (by kernel_rfl) (by kernel_rfl) (by kernel_rfl) (fun _ _ _ h => h) (Or.inl ⟨by rfl, ?_⟩) (by assumption) ?_
              · intro wq hS
                have hi := hidx wq
                go_simp
              try simp only [Act.put, List.setIfInBounds_toArray, List.set_cons_zero, List.set_cons_succ]
              refine takeD 8 28 (.bool false) (by exact rfl) rfl (by kernel_rfl) (by kernel_rfl) (by kernel_rfl) (fun _ _ _ h => h) (Or.inl ⟨by rfl, ?_⟩) (by assumption) ?_
              · intro wq hS
                have hi := hidx wq
                go_simp
              try simp only [Act.put, List.setIfInBounds_toArray, List.set_cons_zero, List.set_cons_succ]
              refine takeD 9 29 (.bool false) (by exact rfl) rfl (by kernel_rfl) (by kernel_rfl) (by kernel_rfl) (fun _ _ _ h => h) (Or.inl ⟨by rfl, ?_⟩) (by assumption) ?_
              · intro wq hS
                have hi := hidx wq
                go_simp
              try simp only [Act.put, List.setIfInBounds_toArray, List.set_cons_zero, List.set_cons_succ]
              refine takeD 10 30 (.string s) (by exact rfl) rfl (by kernel_rfl) (by kernel_rfl) (by kernel_rfl) (fun _ _ _ h => h) (Or.inl ⟨by rfl, ?_⟩) (by assumption) ?_
              · intro wq hS
                have hi := hidx wq
                go_simp
              try simp only [Act.put, List.setIfInBounds_toArray, List.set_cons_zero, List.set_cons_succ]
              refine takeD 11 31 (.int .i64 (k : Int)) (by exact rfl) rfl (by kernel_rfl) (by kernel_rfl) (by kernel_rfl) (fun _ _ _ h => h) (Or.inl ⟨by rfl, ?_⟩) (by assumption) ?_
              · intro wq hS
                have hi := hidx wq
                go_simp
              try simp only [Act.put, List.setIfInBounds_toArray, List.set_cons_zero, List.set_cons_succ]
              refine takeD 12 32 (.int .u8 C) (by exact rfl) rfl (by kernel_rfl) (by kernel_rfl) (by kernel_rfl) (fun _ _ _ h => h) (Or.inl ⟨by rfl, ?_⟩) (by assumption) ?_
              · intro wq hS
                have hi := hidx wq
                go_simp
              try simp only [Act.put, List.setIfInBounds_toArray, List.set_cons_zero, List.set_cons_succ]
              refine takeD 13 33 (.bool true) (by exact rfl) rfl (by kernel_rfl) (by kernel_rfl) (by kernel_rfl) (fun _ _ _ h => h) (Or.inl ⟨by rfl, ?_⟩) (by assumption) ?_
              · intro wq hS
                have hi := hidx wq
                go_simp
              try simp only [Act.put, List.setIfInBounds_toArray, List.set_cons_zero, List.set_cons_succ]
              refine takeD 14 34 (.bool true) (by exact rfl) rfl (by kernel_rfl) (by kernel_rfl) (by kernel_rfl) (fun _ _ _ h => h) (Or.inl ⟨by rfl, ?_⟩) (by assumption) ?_
              · intro wq hS
                have hi := hidx wq
                go_simp
              try simp only [Act.put, List.setIfInBounds_toArray, List.set_cons_zero, List.set_cons_succ]
              refine takeD 15 35 (.string s) (by exact rfl) rfl (by kernel_rfl) (by kernel_rfl) (by kernel_rfl) (fun _ _ _ h => h) (Or.inl ⟨by rfl, ?_⟩) (by assumption) ?_
              · intro wq hS
                have hi := hidx wq
                go_simp
              try simp only [Act.put, List.setIfInBounds_toArray, List.set_cons_zero, List.set_cons_succ]
              refine takeD 16 36 (.int .i64 (k : Int)) (by exact rfl) rfl (by kernel_rfl) (by kernel_rfl) (by kernel_rfl) (fun _ _ _ h => h) (Or.inl ⟨by rfl, ?_⟩) (by assumption) ?_
              · intro wq hS
                have hi := hidx wq
                go_simp
              try simp only [Act.put, List.setIfInBounds_toArray, List.set_cons_zero, List.set_cons_succ]
              refine takeD 17 37 (.int .u8 C) (by exact rfl) rfl (by kernel_rfl) (by kernel_rfl) (by kernel_rfl) (fun _ _ _ h => h) (Or.inl ⟨by rfl, ?_⟩) (by assumption) ?_
              · intro wq hS
                have hi := hidx wq
                go_simp
              try simp only [Act.put, List.setIfInBounds_toArray, List.set_cons_zero, List.set_cons_succ]
              refine takeD 18 38 (.bool false) (by exact rfl) rfl (by kernel_rfl) (by kernel_rfl) (by kernel_rfl) (fun _ _ _ h => h) (Or.inl ⟨by rfl, ?_⟩) (by assumption) ?_
              · intro wq hS
                have hi := hidx wq
                go_simp
              try simp only [Act.put, List.setIfInBounds_toArray, List.set_cons_zero, List.set_cons_succ]
              refine takeD 19 39 (.bool false) (by exact rfl) rfl (by kernel_rfl) (by kernel_rfl) (by kernel_rfl) (fun _ _ _ h => h) (Or.inl ⟨by rfl, ?_⟩) (by assumption) ?_
              · intro wq hS
                have hi := hidx wq
                go_simp
              try simp only [Act.put, List.setIfInBounds_toArray, List.set_cons_zero, List.set_cons_succ]
              refine takeD 20 4 (.bool false) (by exact rfl) rfl (by kernel_rfl) (by kernel_rfl) (by kernel_rfl) (fun _ _ _ h => h) (Or.inl ⟨by rfl, ?_⟩) (by assumption) ?_
              · intro wq hS
                have hi := hidx wq
                go_simp
              try simp only [Act.put, List.setIfInBounds_toArray, List.set_cons_zero, List.set_cons_succ]
              refine takeD 21 5 (.bool false) (by exact rfl) rfl (by kernel_rfl) (by kernel_rfl) (by kernel_rfl) (fun _ _ _ h => h) (Or.inl ⟨by rfl, ?_⟩) (by assumption) ?_
              · intro wq hS
                have hi := hidx wq
                go_simp
              try simp only [Act.put, List.setIfInBounds_toArray, List.set_cons_zero, List.set_cons_succ]
              refine wpAnyH_done (by kernel_rfl) ?_ _
              refine NoPanic.normal ?_
              clear hHeld
              go_wp2_with fail
              go_ret
              exact ⟨by rw [HR.out, HBA.out ho]; rfl, HBd.out⟩
          · by_cases c2 : 48 ≤ C
            · by_cases c3 : C ≤ 57
              · have c5 : C < 97 := by omega
                go_wp2_with fail
                refine wp_region_noPanic ?_
                refine wp_region_held_drew (S := fun V => True) (by kernel_rfl) trivial ?_
                intro hHeld
                generalize wr.drew = wd at *
                refine takeD 0 20 (.string s) (by exact rfl) rfl (by kernel_rfl) (by kernel_rfl) (by kernel_rfl) (fun _ _ _ h => h) (Or.inl ⟨by rfl, ?_⟩) (by assumption) ?_
                · intro wq hS
                  have hi := hidx wq
                  go_simp
                try simp only [Act.put, List.setIfInBounds_toArray, List.set_cons_zero, List.set_cons_succ]
                refine takeD 1 21 (.int .i64 (k : Int)) (by exact rfl) rfl (by kernel_rfl) (by kernel_rfl) (by kernel_rfl) (fun _ _ _ h => h) (Or.inl ⟨by rfl, ?_⟩) (by assumption) ?_
                · intro wq hS
                  have hi := hidx wq
                  go_simp
                try simp only [Act.put, List.setIfInBounds_toArray, List.set_cons_zero, List.set_cons_succ]
                refine takeD 2 22 (.int .u8 C) (by exact rfl) rfl (by kernel_rfl) (by kernel_rfl) (by kernel_rfl) (fun _ _ _ h => h) (Or.inl ⟨by rfl, ?_⟩) (by assumption) ?_
                · intro wq hS
                  have hi := hidx wq
                  go_simp
                try simp only [Act.put, List.setIfInBounds_toArray, List.set_cons_zero, List.set_cons_succ]
                refine takeD 3 23 (.bool false) (by exact rfl) rfl (by kernel_rfl) (by kernel_rfl) (by kernel_rfl) (fun _ _ _ h => h) (Or.inl ⟨by rfl, ?_⟩) (by assumption) ?_
                · intro wq hS
                  have hi := hidx wq
                  go_simp
                try simp only [Act.put, List.setIfInBounds_toArray, List.set_cons_zero, List.set_cons_succ]
                refine takeD 4 24 (.bool false) (by exact rfl) rfl (by kernel_rfl) (by kernel_rfl) (by kernel_rfl) (fun _ _ _ h => h) (Or.inl ⟨by rfl, ?_⟩) (by assumption) ?_
                · intro wq hS
                  have hi := hidx wq
                  go_simp
                try simp only [Act.put, List.setIfInBounds_toArray, List.set_cons_zero, List.set_cons_succ]
                refine takeD 5 25 undef (by exact rfl) rfl (by kernel_rfl) (by kernel_rfl) (by kernel_rfl) (fun _ _ _ h => h) (Or.inr ⟨by rfl, rfl⟩) (by assumption) ?_
                try simp only [Act.put, List.setIfInBounds_toArray, List.set_cons_zero, List.set_cons_succ]
                refine takeD 6 26 undef (by exact rfl) rfl (by kernel_rfl) (by kernel_rfl) (by kernel_rfl) (fun _ _ _ h => h) (Or.inr ⟨by rfl, rfl⟩) (by assumption) ?_
                try simp only [Act.put, List.setIfInBounds_toArray, List.set_cons_zero, List.set_cons_succ]
                refine takeD 7 27 undef (by exact rfl) rfl (by kernel_rfl) (by kernel_rfl) (by kernel_rfl) (fun _ _ _ h => h) (Or.inr ⟨by rfl, rfl⟩) (by assumption) ?_
                try simp only [Act.put, List.setIfInBounds_toArray, List.set_cons_zero, List.set_cons_succ]
                refine takeD 8 28 undef (by exact rfl) rfl (by kernel_rfl) (by kernel_rfl) (by kernel_rfl) (fun _ _ _ h => h) (Or.inr ⟨by rfl, rfl⟩) (by assumption) ?_
                try simp only [Act.put, List.setIfInBounds_toArray, List.set_cons_zero, List.set_cons_succ]
                refine takeD 9 29 (.bool false) (by exact rfl) rfl (by kernel_rfl) (by kernel_rfl) (by kernel_rfl) (fun _ _ _ h => h) (Or.inl ⟨by rfl, ?_⟩) (by assumption) ?_
                · intro wq hS
                  have hi := hidx wq
                  go_simp
                try simp only [Act.put, List.setIfInBounds_toArray, List.set_cons_zero, List.set_cons_succ]
                refine takeD 10 30 (.string s) (by exact rfl) rfl (by kernel_rfl) (by kernel_rfl) (by kernel_rfl) (fun _ _ _ h => h) (Or.inl ⟨by rfl, ?_⟩) (by assumption) ?_
                · intro wq hS
                  have hi := hidx wq
                  go_simp
                try simp only [Act.put, List.setIfInBounds_toArray, List.set_cons_zero, List.set_cons_succ]
                refine takeD 11 31 (.int .i64 (k : Int)) (by exact rfl) rfl (by kernel_rfl) (by kernel_rfl) (by kernel_rfl) (fun _ _ _ h => h) (Or.inl ⟨by rfl, ?_⟩) (by assumption) ?_
                · intro wq hS
                  have hi := hidx wq
                  go_simp
                try simp only [Act.put, List.setIfInBounds_toArray, List.set_cons_zero, List.set_cons_succ]
                refine takeD 12 32 (.int .u8 C) (by exact rfl) rfl (by kernel_rfl) (by kernel_rfl) (by kernel_rfl) (fun _ _ _ h => h) (Or.inl ⟨by rfl, ?_⟩) (by assumption) ?_
                · intro wq hS
                  have hi := hidx wq
                  go_simp
                try simp only [Act.put, List.setIfInBounds_toArray, List.set_cons_zero, List.set_cons_succ]
                refine takeD 13 33 (.bool true) (by exact rfl) rfl (by kernel_rfl) (by kernel_rfl) (by kernel_rfl) (fun _ _ _ h => h) (Or.inl ⟨by rfl, ?_⟩) (by assumption) ?_
                · intro wq hS
                  have hi := hidx wq
                  go_simp
                try simp only [Act.put, List.setIfInBounds_toArray, List.set_cons_zero, List.set_cons_succ]
                refine takeD 14 34 (.bool true) (by exact rfl) rfl (by kernel_rfl) (by kernel_rfl) (by kernel_rfl) (fun _ _ _ h => h) (Or.inl ⟨by rfl, ?_⟩) (by assumption) ?_
                · intro wq hS
                  have hi := hidx wq
                  go_simp
                try simp only [Act.put, List.setIfInBounds_toArray, List.set_cons_zero, List.set_cons_succ]
                refine takeD 15 35 (.string s) (by exact rfl) rfl (by kernel_rfl) (by kernel_rfl) (by kernel_rfl) (fun _ _ _ h => h) (Or.inl ⟨by rfl, ?_⟩) (by assumption) ?_
                · intro wq hS
                  have hi := hidx wq
                  go_simp
                try simp only [Act.put, List.setIfInBounds_toArray, List.set_cons_zero, List.set_cons_succ]
                refine takeD 16 36 (.int .i64 (k : Int)) (by exact rfl) rfl (by kernel_rfl) (by kernel_rfl) (by kernel_rfl) (fun _ _ _ h => h) (Or.inl ⟨by rfl, ?_⟩) (by assumption) ?_
                · intro wq hS
                  have hi := hidx wq
                  go_simp
                try simp only [Act.put, List.setIfInBounds_toArray, List.set_cons_zero, List.set_cons_succ]
                refine takeD 17 37 (.int .u8 C) (by exact rfl) rfl (by kernel_rfl) (by kernel_rfl) (by kernel_rfl) (fun _ _ _ h => h) (Or.inl ⟨by rfl, ?_⟩) (by assumption) ?_
                · intro wq hS
                  have hi := hidx wq
                  go_simp
                try simp only [Act.put, List.setIfInBounds_toArray, List.set_cons_zero, List.set_cons_succ]
                refine takeD 18 38 (.bool true) (by exact rfl) rfl (by kernel_rfl) (by kernel_rfl) (by kernel_rfl) (fun _ _ _ h => h) (Or.inl ⟨by rfl, ?_⟩) (by assumption) ?_
                · intro wq hS
                  have hi := hidx wq
                  go_simp
                try simp only [Act.put, List.setIfInBounds_toArray, List.set_cons_zero, List.set_cons_succ]
                refine takeD 19 39 (.bool true) (by exact rfl) rfl (by kernel_rfl) (by kernel_rfl) (by kernel_rfl) (fun _ _ _ h => h) (Or.inl ⟨by rfl, ?_⟩) (by assumption) ?_
                · intro wq hS
                  have hi := hidx wq
                  go_simp
                try simp only [Act.put, List.setIfInBounds_toArray, List.set_cons_zero, List.set_cons_succ]
                refine takeD 20 4 (.bool false) (by exact rfl) rfl (by kernel_rfl) (by kernel_rfl) (by kernel_rfl) (fun _ _ _ h => h) (Or.inl ⟨by rfl, ?_⟩) (by assumption) ?_
                · intro wq hS
                  have hi := hidx wq
                  go_simp
                try simp only [Act.put, List.setIfInBounds_toArray, List.set_cons_zero, List.set_cons_succ]
                refine takeD 21 5 (.bool true) (by exact rfl) rfl (by kernel_rfl) (by kernel_rfl) (by kernel_rfl) (fun _ _ _ h => h) (Or.inl ⟨by rfl, ?_⟩) (by assumption) ?_
                · intro wq hS
                  have hi := hidx wq
                  go_simp
                try simp only [Act.put, List.setIfInBounds_toArray, List.set_cons_zero, List.set_cons_succ]
                refine wpAnyH_done (by kernel_rfl) ?_ _
                refine NoPanic.normal ?_
                clear hHeld
                go_wp2_with fail
                go_roundw
                case rel => exact ⟨k + 1, hlt, by simp, HG.out (HOK.out.2 (.inr ⟨c2, c3⟩)), HBd.out⟩
                case measure => simp [intOf]; omega
              · have ho : okc c = false := by
                  rcases hh : okc c with _ | _
                  · rfl
                  · have := HOK.out.1 hh; omega
                have c4 : 57 < C := by omega
                have c5 : C < 97 := by omega
                go_wp2_with fail
                refine wp_region_noPanic ?_
                refine wp_region_held_drew (S := fun V => True) (by kernel_rfl) trivial ?_
                intro hHeld
                generalize wr.drew = wd at *
                refine takeD 0 20 (.string s) (by exact rfl) rfl (by kernel_rfl) (by kernel_rfl) (by kernel_rfl) (fun _ _ _ h => h) (Or.inl ⟨by rfl, ?_⟩) (by assumption) ?_
                · intro wq hS
                  have hi := hidx wq
                  go_simp
                try simp only [Act.put, List.setIfInBounds_toArray, List.set_cons_zero, List.set_cons_succ]
                refine takeD 1 21 (.int .i64 (k : Int)) (by exact rfl) rfl (by kernel_rfl) (by kernel_rfl) (by kernel_rfl) (fun _ _ _ h => h) (Or.inl ⟨by rfl, ?_⟩) (by assumption) ?_
                · intro wq hS
                  have hi := hidx wq
                  go_simp
                try simp only [Act.put, List.setIfInBounds_toArray, List.set_cons_zero, List.set_cons_succ]
                refine takeD 2 22 (.int .u8 C) (by exact rfl) rfl (by kernel_rfl) (by kernel_rfl) (by kernel_rfl) (fun _ _ _ h => h) (Or.inl ⟨by rfl, ?_⟩) (by assumption) ?_
                · intro wq hS
                  have hi := hidx wq
                  go_simp
                try simp only [Act.put, List.setIfInBounds_toArray, List.set_cons_zero, List.set_cons_succ]
                refine takeD 3 23 (.bool false) (by exact rfl) rfl (by kernel_rfl) (by kernel_rfl) (by kernel_rfl) (fun _ _ _ h => h) (Or.inl ⟨by rfl, ?_⟩) (by assumption) ?_
                · intro wq hS
                  have hi := hidx wq
                  go_simp
                try simp only [Act.put, List.setIfInBounds_toArray, List.set_cons_zero, List.set_cons_succ]
                refine takeD 4 24 (.bool false) (by exact rfl) rfl (by kernel_rfl) (by kernel_rfl) (by kernel_rfl) (fun _ _ _ h => h) (Or.inl ⟨by rfl, ?_⟩) (by assumption) ?_
                · intro wq hS
                  have hi := hidx wq
                  go_simp
                try simp only [Act.put, List.setIfInBounds_toArray, List.set_cons_zero, List.set_cons_succ]
                refine takeD 5 25 undef (by exact rfl) rfl (by kernel_rfl) (by kernel_rfl) (by kernel_rfl) (fun _ _ _ h => h) (Or.inr ⟨by rfl, rfl⟩) (by assumption) ?_
                try simp only [Act.put, List.setIfInBounds_toArray, List.set_cons_zero, List.set_cons_succ]
                refine takeD 6 26 undef (by exact rfl) rfl (by kernel_rfl) (by kernel_rfl) (by kernel_rfl) (fun _ _ _ h => h) (Or.inr ⟨by rfl, rfl⟩) (by assumption) ?_
                try simp only [Act.put, List.setIfInBounds_toArray, List.set_cons_zero, List.set_cons_succ]
                refine takeD 7 27 undef (by exact rfl) rfl (by kernel_rfl) (by kernel_rfl) (by kernel_rfl) (fun _ _ _ h => h) (Or.inr ⟨by rfl, rfl⟩) (by assumption) ?_
                try simp only [Act.put, List.setIfInBounds_toArray, List.set_cons_zero, List.set_cons_succ]
                refine takeD 8 28 undef (by exact rfl) rfl (by kernel_rfl) (by kernel_rfl) (by kernel_rfl) (fun _ _ _ h => h) (Or.inr ⟨by rfl, rfl⟩) (by assumption) ?_
                try simp only [Act.put, List.setIfInBounds_toArray, List.set_cons_zero, List.set_cons_succ]
                refine takeD 9 29 (.bool false) (by exact rfl) rfl (by kernel_rfl) (by kernel_rfl) (by kernel_rfl) (fun _ _ _ h => h) (Or.inl ⟨by rfl, ?_⟩) (by assumption) ?_
                · intro wq hS
                  have hi := hidx wq
                  go_simp
                try simp only [Act.put, List.setIfInBounds_toArray, List.set_cons_zero, List.set_cons_succ]
                refine takeD 10 30 (.string s) (by exact rfl) rfl (by kernel_rfl) (by kernel_rfl) (by kernel_rfl) (fun _ _ _ h => h) (Or.inl ⟨by rfl, ?_⟩) (by assumption) ?_
                · intro wq hS
                  have hi := hidx wq
                  go_simp
                try simp only [Act.put, List.setIfInBounds_toArray, List.set_cons_zero, List.set_cons_succ]
                refine takeD 11 31 (.int .i64 (k : Int)) (by exact rfl) rfl (by kernel_rfl) (by kernel_rfl) (by kernel_rfl) (fun _ _ _ h => h) (Or.inl ⟨by rfl, ?_⟩) (by assumption) ?_
                · intro wq hS
                  have hi := hidx wq
                  go_simp
                try simp only [Act.put, List.setIfInBounds_toArray, List.set_cons_zero, List.set_cons_succ]
                refine takeD 12 32 (.int .u8 C) (by exact rfl) rfl (by kernel_rfl) (by kernel_rfl) (by kernel_rfl) (fun _ _ _ h => h) (Or.inl ⟨by rfl, ?_⟩) (by assumption) ?_
                · intro wq hS
                  have hi := hidx wq
                  go_simp
                try simp only [Act.put, List.setIfInBounds_toArray, List.set_cons_zero, List.set_cons_succ]
                refine takeD 13 33 (.bool true) (by exact rfl) rfl (by kernel_rfl) (by kernel_rfl) (by kernel_rfl) (fun _ _ _ h => h) (Or.inl ⟨by rfl, ?_⟩) (by assumption) ?_
                · intro wq hS
                  have hi := hidx wq
                  go_simp
                try simp only [Act.put, List.setIfInBounds_toArray, List.set_cons_zero, List.set_cons_succ]
                refine takeD 14 34 (.bool true) (by exact rfl) rfl (by kernel_rfl) (by kernel_rfl) (by kernel_rfl) (fun _ _ _ h => h) (Or.inl ⟨by rfl, ?_⟩) (by assumption) ?_
                · intro wq hS
                  have hi := hidx wq
                  go_simp
                try simp only [Act.put, List.setIfInBounds_toArray, List.set_cons_zero, List.set_cons_succ]
                refine takeD 15 35 (.string s) (by exact rfl) rfl (by kernel_rfl) (by kernel_rfl) (by kernel_rfl) (fun _ _ _ h => h) (Or.inl ⟨by rfl, ?_⟩) (by assumption) ?_
                · intro wq hS
                  have hi := hidx wq
                  go_simp
                try simp only [Act.put, List.setIfInBounds_toArray, List.set_cons_zero, List.set_cons_succ]
                refine takeD 16 36 (.int .i64 (k : Int)) (by exact rfl) rfl (by kernel_rfl) (by kernel_rfl) (by kernel_rfl) (fun _ _ _ h => h) (Or.inl ⟨by rfl, ?_⟩) (by assumption) ?_
                · intro wq hS
                  have hi := hidx wq
                  go_simp
                try simp only [Act.put, List.setIfInBounds_toArray, List.set_cons_zero, List.set_cons_succ]
                refine takeD 17 37 (.int .u8 C) (by exact rfl) rfl (by kernel_rfl) (by kernel_rfl) (by kernel_rfl) (fun _ _ _ h => h) (Or.inl ⟨by rfl, ?_⟩) (by assumption) ?_
                · intro wq hS
                  have hi := hidx wq
                  go_simp
                try simp only [Act.put, List.setIfInBounds_toArray, List.set_cons_zero, List.set_cons_succ]
                refine takeD 18 38 (.bool false) (by exact rfl) rfl (by kernel_rfl) (by kernel_rfl) (by kernel_rfl) (fun _ _ _ h => h) (Or.inl ⟨by rfl, ?_⟩) (by assumption) ?_
                · intro wq hS
                  have hi := hidx wq
                  go_simp
                try simp only [Act.put, List.setIfInBounds_toArray, List.set_cons_zero, List.set_cons_succ]
                refine takeD 19 39 (.bool false) (by exact rfl) rfl (by kernel_rfl) (by kernel_rfl) (by kernel_rfl) (fun _ _ _ h => h) (Or.inl ⟨by rfl, ?_⟩) (by assumption) ?_
                · intro wq hS
                  have hi := hidx wq
                  go_simp
                try simp only [Act.put, List.setIfInBounds_toArray, List.set_cons_zero, List.set_cons_succ]
                refine takeD 20 4 (.bool false) (by exact rfl) rfl (by kernel_rfl) (by kernel_rfl) (by kernel_rfl) (fun _ _ _ h => h) (Or.inl ⟨by rfl, ?_⟩) (by assumption) ?_
                · intro wq hS
                  have hi := hidx wq
                  go_simp
                try simp only [Act.put, List.setIfInBounds_toArray, List.set_cons_zero, List.set_cons_succ]
                refine takeD 21 5 (.bool false) (by exact rfl) rfl (by kernel_rfl) (by kernel_rfl) (by kernel_rfl) (fun _ _ _ h => h) (Or.inl ⟨by rfl, ?_⟩) (by assumption) ?_
                · intro wq hS
                  have hi := hidx wq
                  go_simp
                try simp only [Act.put, List.setIfInBounds_toArray, List.set_cons_zero, List.set_cons_succ]
                refine wpAnyH_done (by kernel_rfl) ?_ _
                refine NoPanic.normal ?_
                clear hHeld
                go_wp2_with fail
                go_ret
                exact ⟨by rw [HR.out, HBA.out ho]; rfl, HBd.out⟩
            · have ho : okc c = false := by
                rcases hh : okc c with _ | _
                · rfl
                · have := HOK.out.1 hh; omega
              have c4 : C < 48 := by omega
              have c5 : C < 97 := by omega
              go_wp2_with fail
              refine wp_region_noPanic ?_
              refine wp_region_held_drew (S := fun V => True) (by kernel_rfl) trivial ?_
              intro hHeld
              generalize wr.drew = wd at *
              refine takeD 0 20 (.string s) (by exact rfl) rfl (by kernel_rfl) (by kernel_rfl) (by kernel_rfl) (fun _ _ _ h => h) (Or.inl ⟨by rfl, ?_⟩) (by assumption) ?_
              · intro wq hS
                have hi := hidx wq
                go_simp
              try simp only [Act.put, List.setIfInBounds_toArray, List.set_cons_zero, List.set_cons_succ]
              refine takeD 1 21 (.int .i64 (k : Int)) (by exact rfl) rfl (by kernel_rfl) (by kernel_rfl) (by kernel_rfl) (fun _ _ _ h => h) (Or.inl ⟨by rfl, ?_⟩) (by assumption) ?_
              · intro wq hS
                have hi := hidx wq
                go_simp
              try simp only [Act.put, List.setIfInBounds_toArray, List.set_cons_zero, List.set_cons_succ]
              refine takeD 2 22 (.int .u8 C) (by exact rfl) rfl (by kernel_rfl) (by kernel_rfl) (by kernel_rfl) (fun _ _ _ h => h) (Or.inl ⟨by rfl, ?_⟩) (by assumption) ?_
              · intro wq hS
                have hi := hidx wq
                go_simp
              try simp only [Act.put, List.setIfInBounds_toArray, List.set_cons_zero, List.set_cons_succ]
              refine takeD 3 23 (.bool false) (by exact rfl) rfl (by kernel_rfl) (by kernel_rfl) (by kernel_rfl) (fun _ _ _ h => h) (Or.inl ⟨by rfl, ?_⟩) (by assumption) ?_
              · intro wq hS
                have hi := hidx wq
                go_simp
              try simp only [Act.put, List.setIfInBounds_toArray, List.set_cons_zero, List.set_cons_succ]
              refine takeD 4 24 (.bool false) (by exact rfl) rfl (by kernel_rfl) (by kernel_rfl) (by kernel_rfl) (fun _ _ _ h => h) (Or.inl ⟨by rfl, ?_⟩) (by assumption) ?_
              · intro wq hS
                have hi := hidx wq
                go_simp
              try simp only [Act.put, List.setIfInBounds_toArray, List.set_cons_zero, List.set_cons_succ]
              refine takeD 5 25 undef (by exact rfl) rfl (by kernel_rfl) (by kernel_rfl) (by kernel_rfl) (fun _ _ _ h => h) (Or.inr ⟨by rfl, rfl⟩) (by assumption) ?_
              try simp only [Act.put, List.setIfInBounds_toArray, List.set_cons_zero, List.set_cons_succ]
              refine takeD 6 26 undef (by exact rfl) rfl (by kernel_rfl) (by kernel_rfl) (by kernel_rfl) (fun _ _ _ h => h) (Or.inr ⟨by rfl, rfl⟩) (by assumption) ?_
              try simp only [Act.put, List.setIfInBounds_toArray, List.set_cons_zero, List.set_cons_succ]
              refine takeD 7 27 undef (by exact rfl) rfl (by kernel_rfl) (by kernel_rfl) (by kernel_rfl) (fun _ _ _ h => h) (Or.inr ⟨by rfl, rfl⟩) (by assumption) ?_
              try simp only [Act.put, List.setIfInBounds_toArray, List.set_cons_zero, List.set_cons_succ]
              refine takeD 8 28 undef (by exact rfl) rfl (by kernel_rfl) (by kernel_rfl) (by kernel_rfl) (fun _ _ _ h => h) (Or.inr ⟨by rfl, rfl⟩) (by assumption) ?_
              try simp only [Act.put, List.setIfInBounds_toArray, List.set_cons_zero, List.set_cons_succ]
              refine takeD 9 29 (.bool false) (by exact rfl) rfl (by kernel_rfl) (by kernel_rfl) (by kernel_rfl) (fun _ _ _ h => h) (Or.inl ⟨by rfl, ?_⟩) (by assumption) ?_
              · intro wq hS
                have hi := hidx wq
                go_simp
              try simp only [Act.put, List.setIfInBounds_toArray, List.set_cons_zero, List.set_cons_succ]
              refine takeD 10 30 (.string s) (by exact rfl) rfl (by kernel_rfl) (by kernel_rfl) (by kernel_rfl) (fun _ _ _ h => h) (Or.inl ⟨by rfl, ?_⟩) (by assumption) ?_
              · intro wq hS
                have hi := hidx wq
                go_simp
              try simp only [Act.put, List.setIfInBounds_toArray, List.set_cons_zero, List.set_cons_succ]
              refine takeD 11 31 (.int .i64 (k : Int)) (by exact rfl) rfl (by kernel_rfl) (by kernel_rfl) (by kernel_rfl) (fun _ _ _ h => h) (Or.inl ⟨by rfl, ?_⟩) (by assumption) ?_
              · intro wq hS
                have hi := hidx wq
                go_simp
              try simp only [Act.put, List.setIfInBounds_toArray, List.set_cons_zero, List.set_cons_succ]
              refine takeD 12 32 (.int .u8 C) (by exact rfl) rfl (by kernel_rfl) (by kernel_rfl) (by kernel_rfl) (fun _ _ _ h => h) (Or.inl ⟨by rfl, ?_⟩) (by assumption) ?_
              · intro wq hS
                have hi := hidx wq
                go_simp
              try simp only [Act.put, List.setIfInBounds_toArray, List.set_cons_zero, List.set_cons_succ]
              refine takeD 13 33 (.bool false) (by exact rfl) rfl (by kernel_rfl) (by kernel_rfl) (by kernel_rfl) (fun _ _ _ h => h) (Or.inl ⟨by rfl, ?_⟩) (by assumption) ?_
              · intro wq hS
                have hi := hidx wq
                go_simp
              try simp only [Act.put, List.setIfInBounds_toArray, List.set_cons_zero, List.set_cons_succ]
              refine takeD 14 34 (.bool false) (by exact rfl) rfl (by kernel_rfl) (by kernel_rfl) (by kernel_rfl) (fun _ _ _ h => h) (Or.inl ⟨by rfl, ?_⟩) (by assumption) ?_
              · intro wq hS
                have hi := hidx wq
                go_simp
              try simp only [Act.put, List.setIfInBounds_toArray, List.set_cons_zero, List.set_cons_succ]
              refine takeD 15 35 undef (by exact rfl) rfl (by kernel_rfl) (by kernel_rfl) (by kernel_rfl) (fun _ _ _ h => h) (Or.inr ⟨by rfl, rfl⟩) (by assumption) ?_
              try simp only [Act.put, List.setIfInBounds_toArray, List.set_cons_zero, List.set_cons_succ]
              refine takeD 16 36 undef (by exact rfl) rfl (by kernel_rfl) (by kernel_rfl) (by kernel_rfl) (fun _ _ _ h => h) (Or.inr ⟨by rfl, rfl⟩) (by assumption) ?_
              try simp only [Act.put, List.setIfInBounds_toArray, List.set_cons_zero, List.set_cons_succ]
              refine takeD 17 37 undef (by exact rfl) rfl (by kernel_rfl) (by kernel_rfl) (by kernel_rfl) (fun _ _ _ h => h) (Or.inr ⟨by rfl, rfl⟩) (by assumption) ?_
              try simp only [Act.put, List.setIfInBounds_toArray, List.set_cons_zero, List.set_cons_succ]
              refine takeD 18 38 undef (by exact rfl) rfl (by kernel_rfl) (by kernel_rfl) (by kernel_rfl) (fun _ _ _ h => h) (Or.inr ⟨by rfl, rfl⟩) (by assumption) ?_
              try simp only [Act.put, List.setIfInBounds_toArray, List.set_cons_zero, List.set_cons_succ]
              refine takeD 19 39 (.bool false) (by exact rfl) rfl (by kernel_rfl) (by kernel_rfl) (by kernel_rfl) (fun _ _ _ h => h) (Or.inl ⟨by rfl, ?_⟩) (by assumption) ?_
              · intro wq hS
                have hi := hidx wq
                go_simp
              try simp only [Act.put, List.setIfInBounds_toArray, List.set_cons_zero, List.set_cons_succ]
              refine takeD 20 4 (.bool false) (by exact rfl) rfl (by kernel_rfl) (by kernel_rfl) (by kernel_rfl) (fun _ _ _ h => h) (Or.inl ⟨by rfl, ?_⟩) (by assumption) ?_
              · intro wq hS
                have hi := hidx wq
                go_simp
              try simp only [Act.put, List.setIfInBounds_toArray, List.set_cons_zero, List.set_cons_succ]
              refine takeD 21 5 (.bool false) (by exact rfl) rfl (by kernel_rfl) (by kernel_rfl) (by kernel_rfl) (fun _ _ _ h => h) (Or.inl ⟨by rfl, ?_⟩) (by assumption) ?_
              · intro wq hS
                have hi := hidx wq
                go_simp
              try simp only [Act.put, List.setIfInBounds_toArray, List.set_cons_zero, List.set_cons_succ]
              refine wpAnyH_done (by kernel_rfl) ?_ _
              refine NoPanic.normal ?_
              clear hHeld
              go_wp2_with fail
              go_ret
              exact ⟨by rw [HR.out, HBA.out ho]; rfl, HBd.out⟩
        · obtain rfl : k = s.size := by omega
          have e : s.data.toList.all okc = true := List.all_eq_true.2 (by have := hc.out; rwa [← HL.out, List.take_length] at this)
          have HE := (show Hid _ from e)
          clear e
          go_wp2
          go_ret
          exact ⟨by rw [HR.out, HE.out]; rfl, HB.out⟩
end Go.Proofs.Ytakgkpiicigihaa
/- disk XLIII: put in plain words; the document's files without where they lie. -/
namespace Go.Proofs.Ytakgkpiicigihaa
open Go.RowKit Go.Maps Go.Sort Go.Shelf pk
set_option linter.unusedVariables false

theorem putL_true (f : RF) (xs : List RF) : putL f true xs = xs.filter (fun g => decide (g.nm ≠ f.nm)) := by
  induction xs with
  | nil => rfl
  | cons x xs ih =>
    rw [putL, List.filter_cons]
    simp only [Bool.true_or, ih]
    by_cases h : x.nm = f.nm <;> simp [h]
theorem putL_perm (f : RF) (xs : List RF) : (putL f false xs).Perm (f :: xs.filter (fun g => decide (g.nm ≠ f.nm))) := by
  induction xs with
  | nil => exact List.Perm.refl _
  | cons x xs ih =>
    rw [putL, List.filter_cons]
    by_cases h1 : x.nm < f.nm
    · have h2 : x.nm ≠ f.nm := fun e => by rw [e] at h1; exact List.lt_irrefl _ h1
      simp only [h1, not_true_eq_false, and_false, if_false, h2, List.nil_append, decide_true, Bool.not_true, Bool.or_false, ne_eq, not_false_eq_true, if_true]
      show (x :: putL f false xs).Perm _
      exact (ih.cons x).trans (List.Perm.swap _ _ _)
    · simp only [h1, not_false_eq_true, and_self, if_true, decide_false, Bool.not_false, Bool.or_true, putL_true]
      by_cases h2 : x.nm = f.nm
      · simp [h2]
      · simp [h2]
theorem putL_mem {f g : RF} {xs : List RF} (h : g ∈ putL f false xs) : g = f ∨ g ∈ xs := by
  rcases List.mem_cons.1 ((putL_perm f xs).mem_iff.1 h) with h | h
  · exact .inl h
  · exact .inr (List.mem_filter.1 h).1
theorem rtot_perm {a b : List RF} (h : a.Perm b) : rtot a = rtot b := by
  induction h with
  | nil => rfl
  | cons x _ ih => simp only [rtot, ih]
  | swap x y l => simp only [rtot]; omega
  | trans _ _ h1 h2 => rw [h1, h2]
theorem rix_at {fs : List RF} {l : List UInt8} {i : Nat} (h : rix fs l = some i) : ∃ hi : i < fs.length, fs[i].nm = l := by
  unfold rix at h
  obtain ⟨h1, h2, _⟩ := List.findIdx?_eq_some_iff_getElem.1 h
  exact ⟨h1, by simpa using h2⟩
theorem rtot_out {fs : List RF} {f : RF} (h : f ∈ fs) : rtot (fs.filter (fun g => decide (g.nm ≠ f.nm))) + f.ks.length ≤ rtot fs ∧ (fs.filter (fun g => decide (g.nm ≠ f.nm))).length + 1 ≤ fs.length := by
  induction fs with
  | nil => cases h
  | cons x xs ih =>
    rw [List.filter_cons]
    have h0 := rtot_filter (fun g => decide (g.nm ≠ f.nm)) xs
    have h1 := List.length_filter_le (fun g : RF => decide (g.nm ≠ f.nm)) xs
    rcases List.mem_cons.1 h with rfl | h
    · rw [if_neg (by simp)]
      simp only [rtot, List.length_cons]
      omega
    · have := ih h
      split <;> simp only [rtot, List.length_cons] <;> omega
/-- in the place of one of its name, that has as many sectors or more -/
theorem put_fits {y : RK} {f g : RF} (hg : g ∈ y.fs) (hn : f.nm = g.nm) (hk : f.ks.length ≤ g.ks.length) (hc : y.fs.length ≤ 64) (hr : rtot y.fs ≤ y.room) : (putL f false y.fs).length ≤ 64 ∧ rtot (putL f false y.fs) ≤ y.room := by
  have h1 := rtot_out hg
  rw [(putL_perm f y.fs).length_eq, rtot_perm (putL_perm f y.fs), hn]
  simp only [List.length_cons, rtot]
  omega
abbrev T3 := List UInt8 × List Nat × List Bool
def ra (fs : List RF) : List T3 := fs.map fun f => (f.nm, f.bs, f.ks)
def putA (f : T3) : Bool → List T3 → List T3
  | false, [] => [f]
  | true, [] => []
  | dn, x :: xs => (if dn = false ∧ ¬ x.1 < f.1 then [f] else []) ++ (if x.1 = f.1 then [] else [x]) ++ putA f (dn || !decide (x.1 < f.1)) xs
theorem ra_put (f : RF) : ∀ (xs : List RF) (dn : Bool), ra (putL f dn xs) = putA (f.nm, f.bs, f.ks) dn (ra xs)
  | [], false => rfl
  | [], true => rfl
  | x :: xs, dn => by
    have ih := ra_put f xs (dn || !decide (x.nm < f.nm))
    unfold ra at ih ⊢
    rw [putL, List.map_append, List.map_append, ih, List.map_cons, putA]
    congr 2
    · split <;> rfl
    · split <;> rfl
theorem ra_filter (fs : List RF) (P : List UInt8 → Bool) : ra (fs.filter (fun g => P g.nm)) = (ra fs).filter (fun t => P t.1) := by
  unfold ra
  rw [List.filter_map]
  rfl
theorem NewB.in {w w' : World} {v : Value} {ks : List Bool} (h : NewB w w' v ks) (hl : ks.length ≤ 140737488355328) : ∃ g, v = .slice (some ⟨g, 0, none⟩) ks.length ks.length ∧ w.heap.size ≤ g ∧ Bl w' v ks ∧ SafeX w' v := by
  obtain ⟨g, rfl, hg, hv⟩ := h
  refine ⟨g, rfl, hg, (bl_blk hv hl).1, fun b off n c e => ?_⟩
  cases e
  exact ⟨_, _, _, hv.blk, by unfold Dt; decide, by unfold Rt; decide⟩
theorem Rf.step {w w' : World} {f : RF} (h : Rf w f) (k : Below w.heap.size w w') : Rf w' f := h.ker (KeR.bel k)
end Go.Proofs.Ytakgkpiicigihaa
