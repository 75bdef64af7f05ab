/- disk XIII: Append. -/
import Derived.Test.YtgabklihgjjjeaaGreatDoorDkj
import Derived.Test.YtgabklihgjjjeaaGreatDoorDkk
namespace Go.Proofs.YtgabklihgjjjeaaGreatDoor
open Go.RowKit Go.Shelf Go.Maps pk
set_option linter.unusedVariables false

theorem ab_app (a b : List Ent) : ab (a ++ b) = ab a ++ ab b := by simp [ab]
theorem apd_none {es : List Ent} {l : List UInt8} (h : fd es l = none) (t : List (List UInt8 × List (List Nat) × Nat)) (ps : List (List Nat)) : apd (ab es ++ t) l ps = ab es ++ apd t l ps := by
  induction es with
  | nil => rfl
  | cons e es ih =>
    unfold fd at h
    rw [List.find?_cons] at h
    cases hh : (e.nm == l)
    · rw [hh] at h
      have hne : ¬ e.nm = l := by simpa using hh
      show apd ((e.nm, e.ss, e.sy) :: (ab es ++ t)) l ps = (e.nm, e.ss, e.sy) :: (ab es ++ apd t l ps)
      rw [apd, if_neg hne, ih h]
    · rw [hh] at h
      cases h
/-- what a call that appends leaves -/
def Apd (w w' : World) (B p m : Nat) (x : DK) (l : List UInt8) (bs : List Nat) : Prop := (∃ es', ab es' = apd (ab x.es) l (parts bs) ∧ Dsk w' B p m { x with es := es' }) ∧ Kee w w' ∧ Below B w w'
theorem write_any (w : World) (B p m : Nat) (x : DK) (h : Dsk w B p m x) (s : ByteArray) (hs : s.size ≤ 1048576) (hn : isNm s.data.toList = true) (v : Value) (bs : List Nat) (hb : Bs w v bs) (hsf : Safe w v) (hl : bs.length ≤ 140737488355328) (hfit : fit x s.data.toList (cnt bs.length) = true) :
    Calls Tryz.prog 71 #[ptr p, .string s, v] w fun r w' => (∃ u, r = .returned u) ∧ Apd w w' B p m x s.data.toList bs := by
  obtain ⟨hby, a, c, rfl, h1, h2, h3, h4⟩ := hb
  obtain ⟨b, off, hsa⟩ : ∃ b off, 0 < bs.length → a = some ⟨b, off, none⟩ := by
    by_cases h0 : 0 < bs.length
    · obtain ⟨b, off, e, _⟩ := h4 h0
      exact ⟨b, off, fun _ => e⟩
    · exact ⟨0, 0, fun h => absurd h h0⟩
  have hbb : Bs w (.slice a bs.length c) bs := ⟨hby, a, c, rfl, h1, h2, h3, h4⟩
  unfold fit at hfit
  rw [Bool.and_eq_true, decide_eq_true_eq] at hfit
  have hroom : tot x.es + cnt bs.length ≤ x.room := by have := h.fits.1; omega
  cases hf : fd x.es s.data.toList with
  | some e =>
    obtain ⟨l1, l2, hx, hnm, hl1⟩ := fd_split hf
    refine (write_known w B p m x h s hs a bs.length c b off bs hbb hsf hsa ⟨h1, h2, hl⟩ l1 l2 e hx hf hroom).mono ?_
    rintro r w' ⟨hr, ⟨v', hD⟩, hk, hbl⟩
    refine ⟨hr, ⟨_, ?_, hD⟩, hk, hbl⟩
    rw [hx, ab_app, ab_app, apd_none hl1]
    show _ ++ (e.nm, e.ss ++ parts bs, e.sy) :: ab l2 = ab l1 ++ apd ((e.nm, e.ss, e.sy) :: ab l2) _ _
    rw [apd, if_pos hnm]
  | none =>
    have hcn : x.es.length < 64 := by
      have h5 := h.fits.2.2
      have h6 : ¬ x.es.length = 64 := fun e => by
        have := hfit.1
        rw [hf, e] at this
        cases this
      omega
    have hnl : s.data.toList.length ≤ 16 := by
      unfold isNm at hn
      simp only [Bool.and_eq_true, decide_eq_true_eq] at hn
      exact hn.1.2
    refine (write_new w B p m x h s hs a bs.length c b off bs hbb hsf hsa ⟨h1, h2, hl⟩ hf hnl hcn hroom).mono ?_
    rintro r w' ⟨hr, ⟨q, v', hD⟩, hk, hbl⟩
    refine ⟨hr, ⟨_, ?_, hD⟩, hk, hbl⟩
    rw [ab_app]
    have := apd_none hf [] (parts bs)
    rw [List.append_nil] at this
    rw [this]
    rfl
/-- Append, in range, with room, while the power is on -/
theorem append_ok (w : World) (B p m : Nat) (x : DK) (h : Dsk w B p m x) (s : ByteArray) (hs : s.size ≤ 1048576) (hn : isNm s.data.toList = true) (v : Value) (bs : List Nat) (hb : Bs w v bs) (hsf : Safe w v) (hl : bs.length ≤ 140737488355328) (hfit : fit x s.data.toList (cnt bs.length) = true)
    (hon : x.on = true) (ho : x.ops ≤ 4611686018427387904) (hlf : x.left ≤ 9223372036854775807) :
    Calls Tryz.prog 45 #[ptr p, .string s, v] w fun e w' => e = .returned (.int .i64 (if (beg x).on then 0 else 18)) ∧ Apd w w' B p m (beg x) s.data.toList bs := by
  have HB0 : Hid (B ≤ w.heap.size) := (show B ≤ w.heap.size from Nat.le_trans h.lo.1 (Nat.le_of_lt h.va.lt))
  have HH := (show Hid _ from h)
  have HBS := (show Hid _ from hb)
  have HSF : Hid (Safe w v) := hsf
  obtain ⟨hby, a, c, rfl, _⟩ := hb
  clear h hsf hby
  have hp : (ptr p) = .pointer (some ⟨p, 0, none⟩) := rfl
  rw [hp]
  cases hb1 : (beg x).on
  all_goals
    go_enter Tryz.func45, Tryz.ntmps45
    go_wp2_with (first | (go_at_call 62; refine (isName_ok s _ (by omega)).mono ?_; rintro e w1 ⟨rfl, rfl⟩; rw [hn]) | (go_at_call 69; refine (fits_ok _ B p m x HH.out s hs _ bs HBS.out hl).mono ?_; rintro e w2 ⟨rfl, b2⟩; rw [hfit]; have D2 : Hid (Dsk w2 B p m x) := HH.out.step b2; have yon := D2.out.va.cell 2 (v := .bool x.on) rfl; rw [hon] at yon))
    refine (begin_ok w2 B p m x D2.out hon ho hlf).mono ?_
    rintro e w3 ⟨rfl, h3⟩
    rw [hb1]
    have D3 : Hid (Dsk w3 B p m (beg x)) := h3.1
    have K3 := (show Hid _ from (Kee.bel b2).trans h3.2.1)
    have L3 := (show Hid _ from (b2.mono HB0.out).trans h3.2.2)
    have S3 : Hid (Safe w3 (.slice a bs.length c)) := HSF.out.kee K3.out
    have B3 : Hid (Bs w3 (.slice a bs.length c) bs) := HBS.out.kee HSF.out K3.out
    clear h3 yon b2
    go_wp2_with (go_at_call 71; refine (write_any _ B p m (beg x) D3.out s hs hn _ bs B3.out S3.out hl hfit).mono ?_; rintro e w4 ⟨⟨u, rfl⟩, hA⟩)
    go_ret
    exact ⟨rfl, hA.1, K3.out.trans hA.2.1, L3.out.trans hA.2.2⟩
theorem append_full (w : World) (B p m : Nat) (x : DK) (h : Dsk w B p m x) (s : ByteArray) (hs : s.size ≤ 1048576) (hn : isNm s.data.toList = true) (v : Value) (bs : List Nat) (hb : Bs w v bs) (hl : bs.length ≤ 140737488355328) (hfit : fit x s.data.toList (cnt bs.length) = false) :
    Calls Tryz.prog 45 #[ptr p, .string s, v] w fun e w' => e = .returned (.int .i64 17) ∧ Below w.heap.size w w' := by
  have HH := (show Hid _ from h)
  have HBS := (show Hid _ from hb)
  obtain ⟨hby, a, c, rfl, _⟩ := hb
  clear h hby
  have hp : (ptr p) = .pointer (some ⟨p, 0, none⟩) := rfl
  rw [hp]
  go_enter Tryz.func45, Tryz.ntmps45
  go_wp2_with (first | (go_at_call 62; refine (isName_ok s _ (by omega)).mono ?_; rintro e w1 ⟨rfl, rfl⟩; rw [hn]) | (go_at_call 69; refine (fits_ok _ B p m x HH.out s hs _ bs HBS.out hl).mono ?_; rintro e w2 ⟨rfl, b2⟩; rw [hfit]))
  go_ret
  exact ⟨rfl, b2⟩
end Go.Proofs.YtgabklihgjjjeaaGreatDoor
