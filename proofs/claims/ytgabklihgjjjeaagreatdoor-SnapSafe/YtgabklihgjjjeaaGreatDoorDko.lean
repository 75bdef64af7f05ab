/- disk XV: files that are cut and synced; perform; Sync, Truncate. -/
import Derived.Test.YtgabklihgjjjeaaGreatDoorDkn
namespace Go.Proofs.YtgabklihgjjjeaaGreatDoor
open Go.RowKit Go.Shelf Go.Maps pk
set_option linter.unusedVariables false

theorem appSS {w : World} {ops : Array Oper} {rest : List Oper} {o : Oper} {a : Act} {Q : Exit → Act → World → Prop} (hgd : o.guard = none) (s x : Operand)
    (ho : o.op = .call { callee := .builtin .append, args := #[s, x], argTypes := #[103, 103] })
    (B : Nat) (ys : List (List Nat)) (v : Value) (ad : Addr) (n c : Nat) (hs : a.eval s = v) (hx : a.eval x = .slice (some ad) n c)
    (hown : Own KS w B v []) (hu : Sl KS w (.slice (some ad) n c) ys) (hB : B ≤ w.heap.size) (hl : ys.length ≤ 65536)
    (h : ∀ v' w', Own KS w' B v' ys → Below B w w' → wpList Tryz.prog ops Q rest (a.put o.dst v') w') : wpList Tryz.prog ops Q (o :: rest) a w := by
  have e2 : KS.bt = 32 := rfl
  refine appS (K := KS) hgd s x ho B [] ys v _ hs hx hown hu (fun n c e => by cases e) hB (by rw [e2]; simp; omega) (by simp; omega) (fun v' w' p q r => h v' w' (by simpa using p) q)
/-- what a change of one file leaves -/
def Chf (w w' : World) (B : Nat) (e : Ent) (ss : List (List Nat)) (sy : Nat) : Prop := ∃ v', Fil w' B { e with v := v', ss := ss, sy := sy } ∧ But (XF e) w w' ∧ ∀ g, v'.ownBlock = some g → e.v.ownBlock = some g ∨ w.heap.size ≤ g
theorem sync1_ok (w : World) (B Bf : Nat) (e : Ent) (h : Fil w B e) (hf : VA w Bf [ptr e.q] 76) (hn : e.ss.length ≤ 65536) :
    Calls Tryz.prog 73 #[ptr Bf] w fun r w' => (∃ v, r = .returned v) ∧ Chf w w' B e e.ss e.ss.length := by
  obtain ⟨a, cap, hv, hc, hc2⟩ := h.row.form
  have y0 := h.blk.cell 0 (v := e.v) rfl
  have y1 := h.blk.cell 1 (v := .int .i64 e.sy) rfl
  have f1 := h.blk.free 1
  rw [hv] at y0
  have yb := hf.cell 0 (v := ptr e.q) rfl
  have HH := (show Hid _ from h)
  have hp : (ptr e.q) = .pointer (some ⟨e.q, 0, none⟩) := rfl
  have hp2 : (ptr Bf) = .pointer (some ⟨Bf, 0, none⟩) := rfl
  rw [hp] at yb
  rw [hp2]
  have hlq := h.blk.lt
  have hlb := hf.lt
  clear h hf hv
  go_enter Tryz.func73, Tryz.ntmps73
  go_region
  all_goals go_wp2_with fail
  all_goals go_end0
  all_goals
    refine ⟨⟨_, rfl⟩, e.v, ⟨?_, ?_, HH.out.lo, Nat.le_refl _, HH.out.byte, HH.out.nm⟩, ?_, fun g hg => .inl hg⟩
    · exact (HH.out.blk.set 1 (.int .i64 (e.ss.length : Int))).drew
    · refine HH.out.row.blk (fun g hg => (upd_set w e.q 1 (.int .i64 (e.ss.length : Int))).block g (fun e2 => ?_))
      obtain ⟨cs, hcs⟩ := row_blk HH.out.row hg
      rw [e2, HH.out.blk.blk] at hcs
      injection hcs with hcs
      injection hcs with _ hT _
      cases hT
    · have hb : But (XF e) w (w.setCell ⟨e.q, 1, none⟩ (.int .i64 (e.ss.length : Int))) := (upd_set w e.q 1 (.int .i64 (e.ss.length : Int))).but.mono (fun i h => Or.inl h)
      exact ⟨hb.os, hb.tape, hb.output, hb.size, hb.block⟩

theorem perf_sync (w : World) (B p m : Nat) (x : DK) (h : Dsk w B p m x) (hon : x.on = true) (ho : x.ops ≤ 4611686018427387904) (hlf : x.left ≤ 9223372036854775807) (Bf : Nat) (hst : (beg x).on = true) (R : World → Prop)
    (hcl : ∀ w3, Hdr w w3 B p m (beg x) → Calls Tryz.prog 73 #[ptr Bf] w3 fun r w' => (∃ v, r = .returned v) ∧ R w') :
    Calls Tryz.prog 58 #[ptr p, .func (.func 73) #[] #[ptr Bf]] w fun r w' => r = .returned (.int .i64 0) ∧ R w' := by
  have y := h.va.cell 2 (v := .bool x.on) rfl
  rw [hon] at y
  have HH := (show Hid _ from h)
  have HC : Hid (Unit → ∀ w3, Hdr w w3 B p m (beg x) → Calls Tryz.prog 73 #[ptr Bf] w3 fun r w' => (∃ v, r = .returned v) ∧ R w') := fun _ => hcl
  clear h hcl
  have hp : (ptr p) = .pointer (some ⟨p, 0, none⟩) := rfl
  rw [hp]
  go_enter Tryz.func58, Tryz.ntmps58
  go_wp2_with (first | (go_at_call 70; refine (begin_ok _ B p m x HH.out hon ho hlf).mono ?_; rintro e w3 ⟨rfl, h3⟩; rw [hst]; have H3 := (show Hid _ from h3); clear h3) | (go_at_call 73; refine (HC.out () _ H3.out).mono ?_; rintro e w4 ⟨⟨v, rfl⟩, h4⟩))
  go_ret
  exact ⟨rfl, h4⟩
theorem perf_sync_off (w : World) (B p m : Nat) (x : DK) (h : Dsk w B p m x) (hon : x.on = true) (ho : x.ops ≤ 4611686018427387904) (hlf : x.left ≤ 9223372036854775807) (Bf : Nat) (hst : (beg x).on = false) :
    Calls Tryz.prog 58 #[ptr p, .func (.func 73) #[] #[ptr Bf]] w fun r w' => r = .returned (.int .i64 18) ∧ Hdr w w' B p m { beg x with und := .func (.func 73) #[] #[ptr Bf] } := by
  have y := h.va.cell 2 (v := .bool x.on) rfl
  rw [hon] at y
  have HH := (show Hid _ from h)
  clear h
  have hp : (ptr p) = .pointer (some ⟨p, 0, none⟩) := rfl
  rw [hp]
  go_enter Tryz.func58, Tryz.ntmps58
  go_wp2_with (go_at_call 70; refine (begin_ok _ B p m x HH.out hon ho hlf).mono ?_; rintro e w3 ⟨rfl, h3⟩; rw [hst]; have H3 := (show Hid _ from h3); have y5 := h3.1.va.cell 5 (v := (beg x).und) rfl; have f5 := h3.1.va.free 5; have s5 := run_store Tryz.prog w3 ⟨p, 5, none⟩ (.func (.func 73) #[] #[ptr Bf]) .plain rfl; simp only [y5, f5, Bool.false_eq_true, if_false] at s5; clear h3 y5 f5)
  go_ret
  have h4 := hdr_of H3.out.1 (upd_set _ p 5 (.func (.func 73) #[] #[ptr Bf])) (beg x).ops (beg x).left (beg x).on (.func (.func 73) #[] #[ptr Bf]) (H3.out.1.va.set 5 _)
  exact ⟨rfl, h4.1, H3.out.2.1.trans h4.2.1, H3.out.2.2.trans h4.2.2⟩

theorem Chf.kee {w w' : World} {B : Nat} {e : Ent} {ss : List (List Nat)} {sy : Nat} (h : Chf w w' B e ss sy) (f : Fil w B e) : Kee w w' := by
  obtain ⟨v', _, hb, _⟩ := h
  refine kee_but hb (fun i hi cs T z hc => ?_)
  rcases hi with rfl | hi
  · rw [f.blk.blk] at hc; cases hc; exact .inr (.inl rfl)
  · obtain ⟨cs', hcs⟩ := row_blk f.row hi
    rw [hcs] at hc; cases hc; exact .inr (.inr rfl)
theorem Chf.bel {w w' : World} {B : Nat} {e : Ent} {ss : List (List Nat)} {sy : Nat} (h : Chf w w' B e ss sy) (f : Fil w B e) (hB : B ≤ w.heap.size) : Below B w w' := by
  obtain ⟨v', _, hb, _⟩ := h
  refine hb.below hB (fun i hi => ?_)
  rcases hi with rfl | hi
  · exact f.lo
  · exact f.row.block i hi
/-- the files with one changed -/
def upd1 (fs : List (List UInt8 × List (List Nat) × Nat)) (l : List UInt8) (ss : List (List Nat)) (sy : Nat) : List (List UInt8 × List (List Nat) × Nat) := fs.map fun t => if t.1 = l then (l, ss, sy) else t
theorem ab_upd {l1 l2 : List Ent} {e : Ent} (hp : (l1 ++ e :: l2).Pairwise Apart) (v : Value) (ss : List (List Nat)) (sy : Nat) : ab (l1 ++ { e with v := v, ss := ss, sy := sy } :: l2) = upd1 (ab (l1 ++ e :: l2)) e.nm ss sy := by
  obtain ⟨a1, a2, a3⟩ := List.pairwise_append.1 hp
  obtain ⟨a4, a5⟩ := List.pairwise_cons.1 a2
  have hsame : ∀ l : List Ent, (∀ a ∈ l, a.nm ≠ e.nm) → upd1 (ab l) e.nm ss sy = ab l := fun l hl => by
    unfold upd1 ab
    rw [List.map_map]
    refine List.map_congr_left (fun a ha => ?_)
    show (if a.nm = e.nm then _ else _) = _
    rw [if_neg (hl a ha)]
  have happ : ∀ a b, upd1 (a ++ b) e.nm ss sy = upd1 a e.nm ss sy ++ upd1 b e.nm ss sy := fun a b => by simp [upd1]
  rw [ab_app, ab_app, happ, hsame l1 (fun a ha => (a3 a ha e (List.mem_cons_self ..)).1)]
  congr 1
  show (e.nm, ss, sy) :: ab l2 = (if e.nm = e.nm then _ else _) :: upd1 (ab l2) e.nm ss sy
  rw [if_pos rfl, hsame l2 (fun a ha => (a4 a ha).1.symm)]
/-- a disk that is like y, but for its files, and what was left undone -/
def Lk (w' : World) (B p m : Nat) (y : DK) (fs : List (List UInt8 × List (List Nat) × Nat)) : Prop := ∃ u es', Dsk w' B p m { y with und := u, es := es' } ∧ ab es' = fs ∧ (y.on = true → u = y.und)
theorem Dsk.chf {w w' : World} {B p m : Nat} {x : DK} (h : Dsk w B p m x) {l1 l2 : List Ent} {e : Ent} (hx : x.es = l1 ++ e :: l2) {ss : List (List Nat)} {sy : Nat} (hc : Chf w w' B e ss sy) (hs : ss.length ≤ e.ss.length) : ∃ es', Dsk w' B p m { x with es := es' } ∧ ab es' = upd1 (ab x.es) e.nm ss sy := by
  obtain ⟨v', hf, hb, hv⟩ := hc
  have ht := h.fits.1
  rw [hx, tot_app] at ht
  simp only [tot] at ht
  refine ⟨_, h.put hx hb hf rfl rfl hv (by show tot l1 + ss.length + tot l2 ≤ _; omega), ?_⟩
  have ap := h.ap
  rw [hx] at ap
  rw [hx, ab_upd ap]
theorem Dsk.flen {w : World} {B p m : Nat} {x : DK} (h : Dsk w B p m x) {l1 l2 : List Ent} {e : Ent} (hx : x.es = l1 ++ e :: l2) : e.ss.length ≤ 65536 := by
  have h1 := h.fits
  rw [hx, tot_app] at h1
  simp only [tot] at h1
  omega
/-- what Sync leaves -/
def Opd (w w' : World) (B p m : Nat) (x : DK) (fs : List (List UInt8 × List (List Nat) × Nat)) : Prop := Lk w' B p m (beg x) (if (beg x).on then fs else ab x.es) ∧ Kee w w' ∧ Below B w w'
end Go.Proofs.YtgabklihgjjjeaaGreatDoor
