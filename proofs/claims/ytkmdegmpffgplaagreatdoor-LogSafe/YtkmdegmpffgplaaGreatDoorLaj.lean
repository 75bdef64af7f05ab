/- disk XIII: Append. -/
import Derived.Test.YtkmdegmpffgplaaGreatDoorLai
import Derived.Test.YtkmdegmpffgplaaGreatDoorLag
namespace Go.Proofs.YtkmdegmpffgplaaGreatDoor
open Go.RowKit Go.Shelf Go.Maps pk
set_option linter.unusedVariables false

theorem ab_app (a b : List Ent) : ab (a ++ b) = ab a ++ ab b := by simp [ab]
theorem apd_none {es : List Ent} {l : List UInt8} (h : fd es l = none) (t : List (List UInt8 × List (List Nat) × Nat)) (ps : List (List Nat)) : apd (ab es ++ t) l ps = ab es ++ apd t l ps := by
  induction es with
  | nil => rfl
  | cons e es ih =>
    unfold fd at h
    rw [List.find?_cons] at h
    cases hh : (e.nm == l)
    · rw [hh] at h
      have hne : ¬ e.nm = l := by simpa using hh
      show apd ((e.nm, e.ss, e.sy) :: (ab es ++ t)) l ps = (e.nm, e.ss, e.sy) :: (ab es ++ apd t l ps)
      rw [apd, if_neg hne, ih h]
    · rw [hh] at h
      cases h
/-- what a call that appends leaves -/
def Apd (w w' : World) (B p m : Nat) (x : DK) (l : List UInt8) (bs : List Nat) : Prop := (∃ es', ab es' = apd (ab x.es) l (parts bs) ∧ Dsk w' B p m { x with es := es' }) ∧ Kee w w' ∧ Below B w w'
theorem write_any (w : World) (B p m : Nat) (x : DK) (h : Dsk w B p m x) (s : ByteArray) (hs : s.size ≤ 1048576) (hn : isNm s.data.toList = true) (v : Value) (bs : List Nat) (hb : Bs w v bs) (hsf : Safe w v) (hl : bs.length ≤ 140737488355328) (hfit : fit x s.data.toList (cnt bs.length) = true) :
    Calls Tryz.prog 54 #[ptr p, .string s, v] w fun r w' => (∃ u, r = .returned u) ∧ Apd w w' B p m x s.data.toList bs := by
  obtain ⟨hby, a, c, rfl, h1, h2, h3, h4⟩ := hb
  obtain ⟨b, off, hsa⟩ : ∃ b off, 0 < bs.length → a = some ⟨b, off, none⟩ := by
    by_cases h0 : 0 < bs.length
    · obtain ⟨b, off, e, _⟩ := h4 h0
      exact ⟨b, off, fun _ => e⟩
    · exact ⟨0, 0, fun h => absurd h h0⟩
  have hbb : Bs w (.slice a bs.length c) bs := ⟨hby, a, c, rfl, h1, h2, h3, h4⟩
  unfold fit at hfit
  rw [Bool.and_eq_true, decide_eq_true_eq] at hfit
  have hroom : tot x.es + cnt bs.length ≤ x.room := by have := h.fits.1; omega
  cases hf : fd x.es s.data.toList with
  | some e =>
    obtain ⟨l1, l2, hx, hnm, hl1⟩ := fd_split hf
    refine (write_known w B p m x h s hs a bs.length c b off bs hbb hsf hsa ⟨h1, h2, hl⟩ l1 l2 e hx hf hroom).mono ?_
    rintro r w' ⟨hr, ⟨v', hD⟩, hk, hbl⟩
    refine ⟨hr, ⟨_, ?_, hD⟩, hk, hbl⟩
    rw [hx, ab_app, ab_app, apd_none hl1]
    show _ ++ (e.nm, e.ss ++ parts bs, e.sy) :: ab l2 = ab l1 ++ apd ((e.nm, e.ss, e.sy) :: ab l2) _ _
    rw [apd, if_pos hnm]
  | none =>
    have hcn : x.es.length < 64 := by
      have h5 := h.fits.2.2
      have h6 : ¬ x.es.length = 64 := fun e => by
        have := hfit.1
        rw [hf, e] at this
        cases this
      omega
    have hnl : s.data.toList.length ≤ 16 := by
      unfold isNm at hn
      simp only [Bool.and_eq_true, decide_eq_true_eq] at hn
      exact hn.1.2
    refine (write_new w B p m x h s hs a bs.length c b off bs hbb hsf hsa ⟨h1, h2, hl⟩ hf hnl hcn hroom).mono ?_
    rintro r w' ⟨hr, ⟨q, v', hD⟩, hk, hbl⟩
    refine ⟨hr, ⟨_, ?_, hD⟩, hk, hbl⟩
    rw [ab_app]
    have := apd_none hf [] (parts bs)
    rw [List.append_nil] at this
    rw [this]
    rfl
/-- Append, in range, with room, while the power is on -/
theorem append_ok (w : World) (B p m : Nat) (x : DK) (h : Dsk w B p m x) (s : ByteArray) (hs : s.size ≤ 1048576) (hn : isNm s.data.toList = true) (v : Value) (bs : List Nat) (hb : Bs w v bs) (hsf : Safe w v) (hl : bs.length ≤ 140737488355328) (hfit : fit x s.data.toList (cnt bs.length) = true)
    (hon : x.on = true) (ho : x.ops ≤ 4611686018427387904) (hlf : x.left ≤ 9223372036854775807) :
    Calls Tryz.prog 20 #[ptr p, .string s, v] w fun e w' => e = .returned (.int .i64 (if (beg x).on then 0 else 18)) ∧ Apd w w' B p m (beg x) s.data.toList bs := by
  have HB0 : Hid (B ≤ w.heap.size) := (show B ≤ w.heap.size from Nat.le_trans h.lo.1 (Nat.le_of_lt h.va.lt))
  have HH := (show Hid _ from h)
  have HBS := (show Hid _ from hb)
  have HSF : Hid (Safe w v) := hsf
  obtain ⟨hby, a, c, rfl, _⟩ := hb
  clear h hsf hby
  have hp : (ptr p) = .pointer (some ⟨p, 0, none⟩) := rfl
  rw [hp]
  cases hb1 : (beg x).on
  all_goals
    go_enter Tryz.func20, Tryz.ntmps20
    go_wp2_with (first | (go_at_call 51; refine (isName_ok s _ (by omega)).mono ?_; rintro e w1 ⟨rfl, rfl⟩; rw [hn]) | (go_at_call 52; refine (fits_ok _ B p m x HH.out s hs _ bs HBS.out hl).mono ?_; rintro e w2 ⟨rfl, b2⟩; rw [hfit]; have D2 : Hid (Dsk w2 B p m x) := HH.out.step b2; have yon := D2.out.va.cell 2 (v := .bool x.on) rfl; rw [hon] at yon))
    refine (begin_ok w2 B p m x D2.out hon ho hlf).mono ?_
    rintro e w3 ⟨rfl, h3⟩
    rw [hb1]
    have D3 : Hid (Dsk w3 B p m (beg x)) := h3.1
    have K3 := (show Hid _ from (Kee.bel b2).trans h3.2.1)
    have L3 := (show Hid _ from (b2.mono HB0.out).trans h3.2.2)
    have S3 : Hid (Safe w3 (.slice a bs.length c)) := HSF.out.kee K3.out
    have B3 : Hid (Bs w3 (.slice a bs.length c) bs) := HBS.out.kee HSF.out K3.out
    clear h3 yon b2
    go_wp2_with (go_at_call 54; refine (write_any _ B p m (beg x) D3.out s hs hn _ bs B3.out S3.out hl hfit).mono ?_; rintro e w4 ⟨⟨u, rfl⟩, hA⟩)
    go_ret
    exact ⟨rfl, hA.1, K3.out.trans hA.2.1, L3.out.trans hA.2.2⟩
theorem append_full (w : World) (B p m : Nat) (x : DK) (h : Dsk w B p m x) (s : ByteArray) (hs : s.size ≤ 1048576) (hn : isNm s.data.toList = true) (v : Value) (bs : List Nat) (hb : Bs w v bs) (hl : bs.length ≤ 140737488355328) (hfit : fit x s.data.toList (cnt bs.length) = false) :
    Calls Tryz.prog 20 #[ptr p, .string s, v] w fun e w' => e = .returned (.int .i64 17) ∧ Below w.heap.size w w' := by
  have HH := (show Hid _ from h)
  have HBS := (show Hid _ from hb)
  obtain ⟨hby, a, c, rfl, _⟩ := hb
  clear h hby
  have hp : (ptr p) = .pointer (some ⟨p, 0, none⟩) := rfl
  rw [hp]
  go_enter Tryz.func20, Tryz.ntmps20
  go_wp2_with (first | (go_at_call 51; refine (isName_ok s _ (by omega)).mono ?_; rintro e w1 ⟨rfl, rfl⟩; rw [hn]) | (go_at_call 52; refine (fits_ok _ B p m x HH.out s hs _ bs HBS.out hl).mono ?_; rintro e w2 ⟨rfl, b2⟩; rw [hfit]))
  go_ret
  exact ⟨rfl, b2⟩
end Go.Proofs.YtkmdegmpffgplaaGreatDoor
/- disk XIV: the bytes of a file; Read, Size. -/
namespace Go.Proofs.YtkmdegmpffgplaaGreatDoor
open Go.RowKit Go.Shelf Go.Maps pk
set_option linter.unusedVariables false

theorem pk.OwnB.safe {w : World} {B : Nat} {v : Value} {bs : List Nat} (h : OwnB w B v bs) : Safe w v := fun b off n c e => by
  rcases h.own.2 with ⟨rfl, _⟩ | ⟨q, cap, cur, rfl, _, hq, _⟩
  · cases e
  · cases e
    exact ⟨_, _, _, hq, by unfold Dt; decide⟩
theorem pk.OwnB.kee {w w' : World} {B : Nat} {v : Value} {bs : List Nat} (h : OwnB w B v bs) (k : Kee w w') : OwnB w' B v bs := by
  refine ⟨h.byte, h.own.1, ?_⟩
  rcases h.own.2 with h2 | ⟨q, cap, cur, e, hb, hq, r⟩
  · exact Or.inl h2
  · exact Or.inr ⟨q, cap, cur, e, hb, k.blk _ _ _ _ hq (by unfold Dt; decide), r⟩
/-- the bytes of a sector -/
def pad32 (s : List Nat) : List Nat := (List.range 32).map fun i => s.getD i 0
def flat (ss : List (List Nat)) : List Nat := ss.flatMap pad32
theorem pad32_len (s : List Nat) : (pad32 s).length = 32 := by simp [pad32]
theorem flat_len (ss : List (List Nat)) : (flat ss).length = 32 * ss.length := by
  induction ss with
  | nil => rfl
  | cons s ss ih =>
    show (pad32 s ++ flat ss).length = _
    rw [List.length_append, ih, pad32_len, List.length_cons]
    omega
theorem flat_app (a b : List (List Nat)) : flat (a ++ b) = flat a ++ flat b := by simp [flat]
theorem cl_pad (s : List Nat) : cl (pad32 s) = sect s := by simp [cl, pad32, sect]
theorem by_pad {s : List Nat} (h : By s) : By (pad32 s) := fun x hx => by
  obtain ⟨i, _, rfl⟩ := List.mem_map.1 hx
  by_cases hi : i < s.length
  · exact h _ (by simp [hi])
  · simp [List.getD, List.getElem?_eq_none (Nat.le_of_not_lt hi)]
theorem bs_box {w : World} {g : Nat} {s : List Nat} (h : VA w g (sect s) 143) (hb : By s) : Bs w (.slice (some ⟨g, 0, none⟩) 32 32) (pad32 s) := by
  refine ⟨by_pad hb, some ⟨g, 0, none⟩, 32, by rw [pad32_len], by rw [pad32_len]; exact Nat.le_refl _, by omega, fun e => (by cases e), fun _ => ⟨g, 0, rfl, h.lt, fun k hk => ?_⟩⟩
  rw [Nat.zero_add]
  refine h.cell k ?_
  rw [← cl_pad, cl_get _ _ hk]
theorem stCells {w : World} {p : Nat} {cs : List Value} {T : TypeId} (h : VA w p cs T) (ds : List Value) (hl : cs.length = ds.length) (h1 : ∀ v ∈ ds, v.oneCell' = true) : ∃ w', (storeCells ⟨p, 0, none⟩ ds).run Tryz.prog w = .ok () w' ∧ VA w' p ds T ∧ Upd p w w' := by
  have hr := run_storeCells_at (P := Tryz.prog) p 0 T ds 0 cs.toArray w h.blk (by simp; omega) h1
  have e1 : (cs.toArray.toList.take (0 + 0) ++ ds ++ cs.toArray.toList.drop (0 + 0 + ds.length)) = ds := by
    simp
    omega
  rw [e1] at hr
  exact ⟨_, hr, ⟨setRow_heap w p _ _ _ _ h.blk⟩, upd_setRow w p _⟩
set_option maxRecDepth 100000 in
set_option maxHeartbeats 1000000 in
theorem bytes_ok (w : World) (B : Nat) (e : Ent) (h : Fil w B e) (hn : e.ss.length ≤ 65536) : Calls Tryz.prog 56 #[ptr e.q] w fun r w' => (∃ u, r = .returned u ∧ OwnB w' w.heap.size u (flat e.ss)) ∧ Below w.heap.size w w' := by
  obtain ⟨a, cap, hv, hc, hc2⟩ := h.row.form
  have y0 := h.blk.cell 0 (v := e.v) rfl
  rw [hv] at y0
  have HH := (show Hid _ from h)
  have HV := (show Hid _ from hv)
  generalize hnl : e.ss.length = n at *
  have HN := (show Hid _ from hnl)
  have hp : (ptr e.q) = .pointer (some ⟨e.q, 0, none⟩) := rfl
  rw [hp]
  have hlq := h.blk.lt
  clear h hv hnl
  have d1 : (n : Int) * 32 ≤ 2097152 := by omega
  go_enter Tryz.func56, Tryz.ntmps56
  go_wp2_with (at_make; refine mkB rfl _ _ rfl 0 (n * 32) _ _ (by rfl) (by rfl) (by simp) (by push_cast; rfl) (Nat.zero_le _) (by omega) ?_; intro w1 m1 b1 s1; have y1 := (b1.cell (p := ⟨e.q, 0, none⟩) hlq).trans y0)
  have HO1 : Hid (OwnB w1 w.heap.size (.slice (some ⟨w.heap.size, 0, none⟩) 0 (n * 32)) []) := ⟨By.nil, rfl, Or.inr ⟨w.heap.size, n * 32, _, rfl, Nat.le_refl _, m1.out, Nat.zero_le _, by unfold maxLen; omega, by simp [cl], by simp [cl]⟩⟩
  have HB1 := (show Hid _ from b1)
  clear m1 b1 s1 y1
  go_loopw [3, 18] (fun pv i wr => ∃ k : Nat, k ≤ n ∧ i = .int .i64 (k : Int) ∧ (∃ sa sn sc, pv = .slice sa sn sc) ∧ Hid (OwnB wr w.heap.size pv (flat (e.ss.take k))) ∧ Hid (Below w.heap.size w wr)) (fun _ i _ => n - (intOf i).toNat)
  case atStart => exact ⟨0, Nat.zero_le _, rfl, ⟨_, _, _, rfl⟩, HO1.out, HB1.out⟩
  case round =>
    obtain ⟨k, hk, rfl, ⟨sa, sn, sc, rfl⟩, HO, HB⟩ := hrel
    by_cases hlt : k < n
    · have dk : (k : Int) < (n : Int) := by omega
      obtain ⟨sk, hsk⟩ : ∃ sk, e.ss[k]? = some sk := ⟨_, List.getElem?_eq_getElem (by rw [HN.out]; exact hlt)⟩
      have F := HH.out.step HB.out
      have hsl := F.row.sl
      rw [HV.out] at hsl
      obtain ⟨g, off, rfl, hg, hcell⟩ := hsl.at k sk hsk
      have hcl : ∀ j u, (sect sk)[j]? = some u → wr.cell? ⟨g, off + k * 32 + j, none⟩ = some u := hcell
      have HCL := (show Hid _ from hcl)
      have HSK := (show Hid _ from hsk)
      have HBY : Hid (By sk) := HH.out.byte sk (List.mem_of_getElem? hsk)
      have HWS : Hid (w.heap.size ≤ wr.heap.size) := HB.out.size
      clear hcell hcl hsl F hsk
      have V0 := va_new wr (List.replicate 32 (Value.int .u8 0)) 143
      have B0 := (Below.refl wr.heap.size wr).alloc (Nat.le_refl _) (.cells (List.replicate 32 (Value.int .u8 0)).toArray 143)
      simp only [List.replicate_succ, List.replicate_zero] at V0 B0
      obtain ⟨w4, hst, V4, U4⟩ := stCells V0 (sect sk) (by rw [sect_len]; rfl) (sect_one sk)
      have HB4 := (show Hid _ from U4.bel B0 (Nat.le_refl _))
      have HV4 := (show Hid _ from V4)
      clear V4 U4
      have HO4 := (show Hid _ from HO.out.kee (Kee.bel HB4.out))
      have HB5 := (show Hid _ from bs_box HV4.out HBY.out)
      clear V0 B0
      go_wp2_with (first | (refine wpList_load_mid rfl 143 _ rfl g (off + k * 32) (by rfl) (sect sk) _ HCL.out Tryz.underlying143 rfl (infoS1.trans (by rw [sect_len])) ?_) | (at_builtin; refine appB rfl _ _ rfl w.heap.size (flat (e.ss.take k)) (pad32 sk) _ _ (by rfl) (by rfl) HO4.out HB5.out (by have := HWS.out; have := HB4.out.size; omega) (by rw [flat_len, pad32_len, List.length_take]; omega) ?_; intro v5 w5 o5 b5; obtain ⟨_, a5, c5, hv5, _⟩ := o5.bs; generalize (flat (e.ss.take k) ++ pad32 sk).length = n5 at hv5; subst hv5))
      have HO5 := (show Hid _ from o5)
      have HB6 := (show Hid _ from (HB.out.trans (HB4.out.mono HWS.out)).trans b5)
      clear o5 b5
      go_wp2_with fail
      go_roundw
      case rel =>
        refine ⟨k + 1, hlt, by simp, ⟨_, _, _, rfl⟩, ?_, HB6.out⟩
        show OwnB _ _ _ _
        have e1 : flat (e.ss.take (k + 1)) = flat (e.ss.take k) ++ pad32 sk := by
          rw [List.take_add_one, HSK.out, flat_app]
          simp [flat]
        rw [e1]
        exact HO5.out
      case measure => simp [intOf]; omega
    · obtain rfl : k = n := by omega
      go_wp2_with fail
      go_ret
      refine ⟨⟨_, rfl, ?_⟩, HB.out⟩
      have := HO.out
      rw [← HN.out, List.take_length] at this
      rw [← HN.out]
      exact this
theorem read_ok (w : World) (B p m : Nat) (x : DK) (h : Dsk w B p m x) (s : ByteArray) (hs : s.size ≤ 1048576) (hn : isNm s.data.toList = true) (f : Ent) (hf : fd x.es s.data.toList = some f) (hon : x.on = true) :
    Calls Tryz.prog 22 #[ptr p, .string s] w fun e w' => (∃ u, e = .returned (.tuple #[u, .int .i64 0]) ∧ OwnB w' w.heap.size u (flat f.ss)) ∧ Below w.heap.size w w' := by
  have y2 := h.va.cell 2 (v := .bool x.on) rfl
  rw [hon] at y2
  have HF : Hid (Fil w B f) := h.fil f (fd_mem hf).1
  have hlen : f.ss.length ≤ 65536 := by
    have h1 := h.fits
    obtain ⟨l1, l2, hx, _⟩ := fd_split hf
    rw [hx, tot_app] at h1
    simp only [tot] at h1
    omega
  have HH := (show Hid _ from h)
  clear h
  have hp : (ptr p) = .pointer (some ⟨p, 0, none⟩) := rfl
  rw [hp]
  go_enter Tryz.func22, Tryz.ntmps22
  go_wp2_with (first | (go_at_call 55; refine (find_some _ B p m x HH.out s hs hn f hf).mono ?_; rintro e w1 ⟨rfl, rfl⟩; unfold ptr) | (go_at_call 56; refine (bytes_ok _ B f HF.out hlen).mono ?_; rintro e w2 ⟨⟨u, rfl, ho⟩, hb⟩))
  refine bodyPost_ret (v := .tuple #[u, .int .i64 0]) (by simp [results, Tryz.results22, go_sem]) rfl ?_
  exact ⟨⟨u, rfl, ho⟩, hb⟩
theorem size_ok (w : World) (B p m : Nat) (x : DK) (h : Dsk w B p m x) (s : ByteArray) (hs : s.size ≤ 1048576) (hn : isNm s.data.toList = true) (f : Ent) (hf : fd x.es s.data.toList = some f) (hon : x.on = true) :
    Calls Tryz.prog 24 #[ptr p, .string s] w fun e w' => e = .returned (.tuple #[.int .i64 f.ss.length, .int .i64 0]) ∧ w' = w := by
  have y2 := h.va.cell 2 (v := .bool x.on) rfl
  rw [hon] at y2
  have F := h.fil f (fd_mem hf).1
  obtain ⟨a, cap, hv, hc, hc2⟩ := F.row.form
  have y0 := F.blk.cell 0 (v := f.v) rfl
  rw [hv] at y0
  have HH := (show Hid _ from h)
  clear h F
  have hp : (ptr p) = .pointer (some ⟨p, 0, none⟩) := rfl
  rw [hp]
  go_enter Tryz.func24, Tryz.ntmps24
  go_wp2_with (go_at_call 55; refine (find_some _ B p m x HH.out s hs hn f hf).mono ?_; rintro e w1 ⟨rfl, rfl⟩; unfold ptr)
  refine bodyPost_ret (v := .tuple #[.int .i64 f.ss.length, .int .i64 0]) (by simp [results, Tryz.results24, go_sem]) rfl ?_
  exact ⟨rfl, rfl⟩
theorem size_none (w : World) (B p m : Nat) (x : DK) (h : Dsk w B p m x) (s : ByteArray) (hs : s.size ≤ 1048576) (hn : isNm s.data.toList = true) (hf : fd x.es s.data.toList = none) :
    Calls Tryz.prog 24 #[ptr p, .string s] w fun e w' => e = .returned (.tuple #[.int .i64 0, .int .i64 7]) ∧ w' = w := by
  have HH := (show Hid _ from h)
  clear h
  have hp : (ptr p) = .pointer (some ⟨p, 0, none⟩) := rfl
  rw [hp]
  go_enter Tryz.func24, Tryz.ntmps24
  go_wp2_with (go_at_call 55; refine (find_none _ B p m x HH.out s hs hn hf).mono ?_; rintro e w1 ⟨rfl, rfl⟩)
  refine bodyPost_ret (v := .tuple #[.int .i64 0, .int .i64 7]) (by simp [results, Tryz.results24, go_sem]) rfl ?_
  exact ⟨rfl, rfl⟩
end Go.Proofs.YtkmdegmpffgplaaGreatDoor
/- parts II: bodies as sectors, and back, in plain numbers. -/
namespace Go.Proofs.YtkmdegmpffgplaaGreatDoor
open Go.RowKit Go.Shelf pk
set_option linter.unusedVariables false

/-- a sector of a part -/
def secB (mk : Nat) (hd s : List Nat) : List Nat := pad32 ([mk, s.length] ++ hd ++ s)
/-- a body as sectors, the first k of them -/
def cutK (mk : Nat) (hd : Nat → List Nat) (bs : List Nat) (k : Nat) : List Nat := (List.range k).flatMap fun i => secB mk (hd i) (prt4 bs i)
/-- .. all of them -/
def cutB (mk : Nat) (hd : Nat → Nat → List Nat) (bs : List Nat) : List Nat := cutK mk (fun i => hd i (cn4 bs.length)) bs (cn4 bs.length)
/-- the parts of the first k sectors -/
def joinK (ss : List Nat) (k : Nat) : List Nat := (List.range k).flatMap fun i => ((ss.drop (32 * i + 8)).take (min (ss.getD (32 * i + 1) 0) 24))
theorem secB_len (mk : Nat) (hd s : List Nat) : (secB mk hd s).length = 32 := pad32_len _
theorem cutK_succ (mk : Nat) (hd : Nat → List Nat) (bs : List Nat) (k : Nat) : cutK mk hd bs (k + 1) = cutK mk hd bs k ++ secB mk (hd k) (prt4 bs k) := by
  unfold cutK
  rw [List.range_succ, List.flatMap_append]
  simp
theorem cutK_len (mk : Nat) (hd : Nat → List Nat) (bs : List Nat) : ∀ k, (cutK mk hd bs k).length = 32 * k
  | 0 => rfl
  | k + 1 => by rw [cutK_succ, List.length_append, cutK_len mk hd bs k, secB_len]; omega
theorem joinK_succ (ss : List Nat) (k : Nat) : joinK ss (k + 1) = joinK ss k ++ ((ss.drop (32 * k + 8)).take (min (ss.getD (32 * k + 1) 0) 24)) := by
  unfold joinK
  rw [List.range_succ, List.flatMap_append]
  simp
theorem pad32_get (s : List Nat) (i : Nat) (hi : i < 32) : (pad32 s)[i]? = some (s.getD i 0) := by
  unfold pad32
  rw [List.getElem?_map, List.getElem?_range hi]
  rfl
/-- a byte of the k-th sector -/
theorem cutK_get (mk : Nat) (hd : Nat → List Nat) (bs : List Nat) (j : Nat) (hj : j < 32) : ∀ n k, k < n → (cutK mk hd bs n)[32 * k + j]? = some (([mk, (prt4 bs k).length] ++ hd k ++ prt4 bs k).getD j 0)
  | n + 1, k, hk => by
    rw [cutK_succ]
    by_cases h : k < n
    · rw [List.getElem?_append_left (by rw [cutK_len]; omega)]
      exact cutK_get mk hd bs j hj n k h
    · obtain rfl : k = n := by omega
      rw [List.getElem?_append_right (by rw [cutK_len]; omega), cutK_len, show 32 * k + j - 32 * k = j by omega]
      exact pad32_get _ j hj
theorem prt4_len (bs : List Nat) (k : Nat) : (prt4 bs k).length = min 24 (bs.length - 24 * k) := by unfold prt4; simp
theorem join_cut (mk : Nat) (hd : Nat → List Nat) (hh : ∀ i, (hd i).length = 6) (bs : List Nat) : ∀ k, k ≤ cn4 bs.length → joinK (cutK mk hd bs (cn4 bs.length)) k = bs.take (24 * k)
  | 0, _ => by simp [joinK]
  | k + 1, h => by
    have ih := join_cut mk hd hh bs k (by omega)
    have hl := prt4_len bs k
    have hk : 24 * k < bs.length := by unfold cn4 at h; omega
    have h1 : (cutK mk hd bs (cn4 bs.length)).getD (32 * k + 1) 0 = (prt4 bs k).length := by
      rw [List.getD_eq_getElem?_getD, cutK_get mk hd bs 1 (by omega) _ k (by omega)]
      rfl
    rw [joinK_succ, ih, h1]
    have e : ((cutK mk hd bs (cn4 bs.length)).drop (32 * k + 8)).take (min (prt4 bs k).length 24) = prt4 bs k := by
      refine List.ext_getElem? (fun i => ?_)
      by_cases hi : i < (prt4 bs k).length
      · rw [List.getElem?_take_of_lt (by omega), List.getElem?_drop, show 32 * k + 8 + i = 32 * k + (8 + i) by omega, cutK_get mk hd bs (8 + i) (by omega) _ k (by omega), List.getD_eq_getElem?_getD, List.getElem?_append_right (by simp [hh]), show (([mk, (prt4 bs k).length] ++ hd k).length) = 8 by simp [hh], show 8 + i - 8 = i by omega, List.getElem?_eq_getElem hi]
        rfl
      · rw [List.getElem?_eq_none (by rw [List.length_take]; omega), List.getElem?_eq_none (by omega)]
    rw [e]
    unfold prt4
    rw [show 24 * (k + 1) = 24 * k + 24 by omega, List.take_add]
theorem join_cutB (mk : Nat) (hd : Nat → Nat → List Nat) (hh : ∀ i c, (hd i c).length = 6) (bs : List Nat) : joinK (cutB mk hd bs) (cn4 bs.length) = bs := by
  unfold cutB
  rw [join_cut mk _ (fun i => hh i _) bs _ (Nat.le_refl _), List.take_of_length_le (by unfold cn4; omega)]
end Go.Proofs.YtkmdegmpffgplaaGreatDoor
