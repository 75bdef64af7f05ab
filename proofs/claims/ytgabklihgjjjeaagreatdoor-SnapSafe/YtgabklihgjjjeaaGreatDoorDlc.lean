/- disk XXVIII: New, Append, Read, Size, Names, Arm, On, Ops, whatever comes. -/
import Derived.Test.YtgabklihgjjjeaaGreatDoorDlb
namespace Go.Proofs.YtgabklihgjjjeaaGreatDoor
open Go.RowKit Go.Maps Go.Sort Go.Shelf pk
set_option linter.unusedVariables false

/-- what Append answers, and leaves -/
def apnd (x : AD) (l : List UInt8) (bs : List Nat) : Nat × AD :=
  if isNm l = false then (1, x)
  else if fitA x.room x.fs l (cnt bs.length) = false then (17, x)
  else if x.on = false then (18, x)
  else (if (begA x).on then 0 else 18, { begA x with fs := apd x.fs l (parts bs) })
theorem append_any (w : World) (B p m : Nat) (x : AD) (h : DA w B p m x) (s : ByteArray) (hs : s.size ≤ 9223372036854775807) (v : Value) (bs : List Nat) (hb : Bs w v bs) (hsf : Safe w v) (hl : bs.length ≤ 140737488355328) (ho : x.ops ≤ 4611686018427387904) (hlf : x.left ≤ 9223372036854775807) :
    Calls Tryz.prog 45 #[ptr p, .string s, v] w fun r w' => r = .returned (.int .i64 ((apnd x s.data.toList bs).1 : Nat)) ∧ Lv w w' B p m (apnd x s.data.toList bs).2 := by
  have HDA : Hid (DA w B p m x) := h
  obtain ⟨es, u0, hD, hab, hu, hun⟩ := h
  have HD := (show Hid _ from hD)
  have hfa : fit ⟨x.room, x.ops, x.left, x.on, u0, es⟩ s.data.toList (cnt bs.length) = fitA x.room x.fs s.data.toList (cnt bs.length) := by rw [fit_ab]; show fitA x.room (ab es) _ _ = _; rw [hab]
  have hp : (ptr p) = .pointer (some ⟨p, 0, none⟩) := rfl
  cases hn : isNm s.data.toList with
  | false =>
    have e1 : apnd x s.data.toList bs = (1, x) := by unfold apnd; rw [if_pos hn]
    rw [e1, hp]
    obtain ⟨hby, a, c, rfl, _⟩ := hb
    clear hD
    go_enter Tryz.func45, Tryz.ntmps45
    go_wp2_with (go_at_call 62; refine (isName_ok s _ hs).mono ?_; rintro e w1 ⟨rfl, rfl⟩; rw [hn])
    go_ret
    exact ⟨rfl, Lv.same HDA.out⟩
  | true =>
    have hs6 := nm_size hn
    cases hft : fitA x.room x.fs s.data.toList (cnt bs.length) with
    | false =>
      have e1 : apnd x s.data.toList bs = (17, x) := by unfold apnd; rw [if_neg (by rw [hn]; simp), if_pos hft]
      rw [e1]
      refine (append_full w B p m _ hD s (by omega) hn v bs hb hl (by rw [hfa]; exact hft)).mono ?_
      rintro e w' ⟨rfl, hbl⟩
      exact ⟨rfl, Lv.step HDA.out hbl⟩
    | true =>
      cases hon : x.on with
      | false =>
        have e1 : apnd x s.data.toList bs = (18, x) := by unfold apnd; rw [if_neg (by rw [hn]; simp), if_neg (by rw [hft]; simp), if_pos hon]
        rw [e1, hp]
        have HBS := (show Hid _ from hb)
        obtain ⟨hby, a, c, rfl, _⟩ := hb
        clear hD hby
        go_enter Tryz.func45, Tryz.ntmps45
        go_wp2_with (first | (go_at_call 62; refine (isName_ok s _ hs).mono ?_; rintro e w1 ⟨rfl, hw1⟩; obtain rfl := hw1.symm; rw [hn]) | (go_at_call 69; refine (fits_ok _ B p m _ HD.out s (by omega) _ bs HBS.out hl).mono ?_; rintro e w2 ⟨rfl, b2⟩; rw [hfa, hft]; have y2 := (HD.out.step b2).va.cell 2 (v := .bool x.on) rfl; rw [hon] at y2))
        go_ret
        exact ⟨rfl, Lv.step HDA.out b2⟩
      | true =>
        have e1 : apnd x s.data.toList bs = (if (begA x).on then 0 else 18, { begA x with fs := apd x.fs s.data.toList (parts bs) }) := by unfold apnd; rw [if_neg (by rw [hn]; simp), if_neg (by rw [hft]; simp), if_neg (by rw [hon]; simp)]
        rw [e1]
        have hu0 : u0 = .nilFunc := by rw [hun hon] at hu; exact hu
        refine (append_ok w B p m _ hD s (by omega) hn v bs hb hsf hl (by rw [hfa]; exact hft) hon ho hlf).mono ?_
        rintro e w' ⟨rfl, ⟨es', hab', hD'⟩, hk, hbl⟩
        refine ⟨?_, ⟨es', u0, hD', ?_, ?_, fun _ => hun hon⟩, hk, hbl⟩
        · show Ending.returned (.int .i64 (if (begA x).on = true then 0 else 18)) = Ending.returned (.int .i64 ((if (begA x).on = true then 0 else 18 : Nat) : Int))
          cases (begA x).on <;> rfl
        · rw [hab']
          show apd (ab es) _ _ = _
          rw [hab]
        · show Und w' p es' x.und u0
          rw [hun hon]
          exact hu0
/-- what Read and Size say -/
def seen (x : AD) (l : List UInt8) : Nat × List (List Nat) :=
  if isNm l = false then (1, []) else match lk x.fs l with
  | none => (7, [])
  | some t => if x.on then (0, t.2.1) else (18, [])
theorem read_any (w : World) (B p m : Nat) (x : AD) (h : DA w B p m x) (s : ByteArray) (hs : s.size ≤ 9223372036854775807) :
    Calls Tryz.prog 21 #[ptr p, .string s] w fun e w' => (∃ u, e = .returned (.tuple #[u, .int .i64 ((seen x s.data.toList).1 : Nat)]) ∧ OwnB w' w.heap.size u (flat (seen x s.data.toList).2)) ∧ Below w.heap.size w w' := by
  obtain ⟨es, u0, hD, hab, hu, hun⟩ := h
  have HD := (show Hid _ from hD)
  have hp : (ptr p) = .pointer (some ⟨p, 0, none⟩) := rfl
  cases hn : isNm s.data.toList with
  | false =>
    have e1 : seen x s.data.toList = (1, []) := by unfold seen; rw [if_pos hn]
    rw [e1, hp]
    clear hD
    go_enter Tryz.func21, Tryz.ntmps21
    go_wp2_with (go_at_call 37; refine (find_bad' _ _ s hs hn).mono ?_; rintro e w1 ⟨rfl, rfl⟩)
    refine bodyPost_ret (v := .tuple #[.slice none 0 0, .int .i64 1]) (by simp [results, Tryz.results21, go_sem]) rfl ?_
    exact ⟨⟨_, rfl, pk.own_nil _ _⟩, Below.refl _ _⟩
  | true =>
    have hs6 := nm_size hn
    cases hf : fd es s.data.toList with
    | none =>
      have e1 : seen x s.data.toList = (7, []) := by unfold seen; rw [if_neg (by rw [hn]; simp), ← hab, lk_ab, hf]; rfl
      rw [e1, hp]
      clear hD
      go_enter Tryz.func21, Tryz.ntmps21
      go_wp2_with (go_at_call 37; refine (find_none _ B p m _ HD.out s (by omega) hn hf).mono ?_; rintro e w1 ⟨rfl, rfl⟩)
      refine bodyPost_ret (v := .tuple #[.slice none 0 0, .int .i64 7]) (by simp [results, Tryz.results21, go_sem]) rfl ?_
      exact ⟨⟨_, rfl, pk.own_nil _ _⟩, Below.refl _ _⟩
    | some f =>
      cases hon : x.on with
      | false =>
        have e1 : seen x s.data.toList = (18, []) := by unfold seen; rw [if_neg (by rw [hn]; simp), ← hab, lk_ab, hf]; simp [hon]
        rw [e1, hp]
        have y2 := hD.va.cell 2 (v := .bool x.on) rfl
        rw [hon] at y2
        clear hD
        go_enter Tryz.func21, Tryz.ntmps21
        go_wp2_with (go_at_call 37; refine (find_some _ B p m _ HD.out s (by omega) hn f hf).mono ?_; rintro e w1 ⟨rfl, rfl⟩; unfold ptr)
        refine bodyPost_ret (v := .tuple #[.slice none 0 0, .int .i64 18]) (by simp [results, Tryz.results21, go_sem]) rfl ?_
        exact ⟨⟨_, rfl, pk.own_nil _ _⟩, Below.refl _ _⟩
      | true =>
        have e1 : seen x s.data.toList = (0, f.ss) := by unfold seen; rw [if_neg (by rw [hn]; simp), ← hab, lk_ab, hf]; simp [hon]
        rw [e1]
        exact read_ok w B p m _ hD s (by omega) hn f hf hon
theorem on_any (w : World) (B p m : Nat) (x : AD) (h : DA w B p m x) : Calls Tryz.prog 19 #[ptr p] w fun e w' => e = .returned (.bool x.on) ∧ w' = w := by
  obtain ⟨es, u0, hD, _⟩ := h
  exact on_ok w B p m _ hD
/-- the names, or none -/
theorem names_any (w : World) (B p m : Nat) (x : AD) (h : DA w B p m x) :
    Calls Tryz.prog 34 #[ptr p] w fun e w' => ∃ v ns, e = .returned v ∧ (x.on = true → ns.Perm (x.fs.map (·.1))) ∧ (x.on = false → ns = []) ∧ ns.Pairwise (fun a b => a ≤ b) ∧ OwnN w' w.heap.size v ns ∧ (v = .slice none 0 0 ↔ ns = []) ∧ Below w.heap.size w w' := by
  have HDA : Hid (DA w B p m x) := h
  obtain ⟨es, u0, hD, hab, _⟩ := h
  have HD := (show Hid _ from hD)
  clear hD
  have hp : (ptr p) = .pointer (some ⟨p, 0, none⟩) := rfl
  rw [hp]
  cases hon : x.on with
  | false =>
    go_enter Tryz.func34, Tryz.ntmps34
    go_wp2_with (go_at_call 19; refine (on_any _ B p m x HDA.out).mono ?_; rintro e w1 ⟨rfl, rfl⟩; rw [hon])
    go_ret
    exact ⟨_, [], rfl, fun e => (by cases e), fun _ => rfl, List.Pairwise.nil, World.ownsRow_nil _ _ _ _, ⟨fun _ => rfl, fun _ => rfl⟩, Below.refl _ _⟩
  | true =>
    go_enter Tryz.func34, Tryz.ntmps34
    go_wp2_with (first | (go_at_call 19; refine (on_any _ B p m x HDA.out).mono ?_; rintro e w1 ⟨rfl, rfl⟩; rw [hon]) | (go_at_call 61; refine (sorted_ok _ B p m _ HD.out).mono ?_; rintro e w2 ⟨v, ns, rfl, hpm, hsr, hown, hnil, hb⟩))
    go_ret
    have hpm' : ns.Perm (es.map (·.nm)) := hpm
    rw [names_ab, hab] at hpm'
    exact ⟨v, ns, rfl, fun _ => hpm', fun e => (by cases e), hsr, hown, hnil, hb⟩
theorem arm_any (w : World) (B p m : Nat) (x : AD) (h : DA w B p m x) (n : Nat) (hn : n ≤ 9223372036854775807) :
    Calls Tryz.prog 14 #[ptr p, .int .i64 (n : Int)] w fun e w' => e = .returned (.int .i64 ((if x.on then 0 else 18 : Nat) : Int)) ∧ Lv w w' B p m (if x.on then { x with left := n } else x) := by
  have HDA : Hid (DA w B p m x) := h
  obtain ⟨es, u0, hD, hab, hu, hun⟩ := h
  cases hon : x.on with
  | false =>
    refine (arm_off w B p m _ hD n hn hon).mono ?_
    rintro e w' ⟨rfl, rfl⟩
    exact ⟨rfl, Lv.same HDA.out⟩
  | true =>
    refine (arm_ok w B p m _ hD n hn hon).mono ?_
    rintro e w' ⟨rfl, h1, h2, h3⟩
    have h1' : Dsk w' B p m ⟨x.room, x.ops, n, x.on, u0, es⟩ := h1
    rw [hon] at h1'
    exact ⟨rfl, ⟨es, u0, h1', hab, hu.kee h2, fun _ => hun hon⟩, h2, h3⟩
theorem new_any (n : Nat) (w : World) (h : 1 ≤ n) (h2 : n ≤ 65536) :
    Calls Tryz.prog 13 #[.int .i64 (n : Int)] w fun e w' => ∃ p m, e = .returned (.tuple #[ptr p, .int .i64 0]) ∧ DA w' w.heap.size p m ⟨n, 0, 0, true, none, []⟩ ∧ Below w.heap.size w w' := by
  refine (new_ok n w h h2).mono ?_
  rintro e w' ⟨p, m, rfl, hD, hb⟩
  exact ⟨p, m, rfl, ⟨[], .nilFunc, hD, rfl, rfl, fun _ => rfl⟩, hb⟩
end Go.Proofs.YtgabklihgjjjeaaGreatDoor
