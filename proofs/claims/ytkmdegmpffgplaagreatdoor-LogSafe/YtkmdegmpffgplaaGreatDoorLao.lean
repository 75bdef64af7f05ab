/- disk XXVIII: New, Append, Read, Size, Names, Arm, On, Ops, whatever comes. -/
import Derived.Test.YtkmdegmpffgplaaGreatDoorLan
import Derived.Test.YtkmdegmpffgplaaGreatDoorLae
namespace Go.Proofs.YtkmdegmpffgplaaGreatDoor
open Go.RowKit Go.Maps Go.Sort Go.Shelf pk
set_option linter.unusedVariables false

/-- what Append answers, and leaves -/
def apnd (x : AD) (l : List UInt8) (bs : List Nat) : Nat × AD :=
  if isNm l = false then (1, x)
  else if fitA x.room x.fs l (cnt bs.length) = false then (17, x)
  else if x.on = false then (18, x)
  else (if (begA x).on then 0 else 18, { begA x with fs := apd x.fs l (parts bs) })
theorem append_any (w : World) (B p m : Nat) (x : AD) (h : DA w B p m x) (s : ByteArray) (hs : s.size ≤ 9223372036854775807) (v : Value) (bs : List Nat) (hb : Bs w v bs) (hsf : Safe w v) (hl : bs.length ≤ 140737488355328) (ho : x.ops ≤ 4611686018427387904) (hlf : x.left ≤ 9223372036854775807) :
    Calls Tryz.prog 20 #[ptr p, .string s, v] w fun r w' => r = .returned (.int .i64 ((apnd x s.data.toList bs).1 : Nat)) ∧ Lv w w' B p m (apnd x s.data.toList bs).2 := by
  have HDA : Hid (DA w B p m x) := h
  obtain ⟨es, u0, hD, hab, hu, hun⟩ := h
  have HD := (show Hid _ from hD)
  have hfa : fit ⟨x.room, x.ops, x.left, x.on, u0, es⟩ s.data.toList (cnt bs.length) = fitA x.room x.fs s.data.toList (cnt bs.length) := by rw [fit_ab]; show fitA x.room (ab es) _ _ = _; rw [hab]
  have hp : (ptr p) = .pointer (some ⟨p, 0, none⟩) := rfl
  cases hn : isNm s.data.toList with
  | false =>
    have e1 : apnd x s.data.toList bs = (1, x) := by unfold apnd; rw [if_pos hn]
    rw [e1, hp]
    obtain ⟨hby, a, c, rfl, _⟩ := hb
    clear hD
    go_enter Tryz.func20, Tryz.ntmps20
    go_wp2_with (go_at_call 51; refine (isName_ok s _ hs).mono ?_; rintro e w1 ⟨rfl, rfl⟩; rw [hn])
    go_ret
    exact ⟨rfl, Lv.same HDA.out⟩
  | true =>
    have hs6 := nm_size hn
    cases hft : fitA x.room x.fs s.data.toList (cnt bs.length) with
    | false =>
      have e1 : apnd x s.data.toList bs = (17, x) := by unfold apnd; rw [if_neg (by rw [hn]; simp), if_pos hft]
      rw [e1]
      refine (append_full w B p m _ hD s (by omega) hn v bs hb hl (by rw [hfa]; exact hft)).mono ?_
      rintro e w' ⟨rfl, hbl⟩
      exact ⟨rfl, Lv.step HDA.out hbl⟩
    | true =>
      cases hon : x.on with
      | false =>
        have e1 : apnd x s.data.toList bs = (18, x) := by unfold apnd; rw [if_neg (by rw [hn]; simp), if_neg (by rw [hft]; simp), if_pos hon]
        rw [e1, hp]
        have HBS := (show Hid _ from hb)
        obtain ⟨hby, a, c, rfl, _⟩ := hb
        clear hD hby
        go_enter Tryz.func20, Tryz.ntmps20
        go_wp2_with (first | (go_at_call 51; refine (isName_ok s _ hs).mono ?_; rintro e w1 ⟨rfl, hw1⟩; obtain rfl := hw1.symm; rw [hn]) | (go_at_call 52; refine (fits_ok _ B p m _ HD.out s (by omega) _ bs HBS.out hl).mono ?_; rintro e w2 ⟨rfl, b2⟩; rw [hfa, hft]; have y2 := (HD.out.step b2).va.cell 2 (v := .bool x.on) rfl; rw [hon] at y2))
        go_ret
        exact ⟨rfl, Lv.step HDA.out b2⟩
      | true =>
        have e1 : apnd x s.data.toList bs = (if (begA x).on then 0 else 18, { begA x with fs := apd x.fs s.data.toList (parts bs) }) := by unfold apnd; rw [if_neg (by rw [hn]; simp), if_neg (by rw [hft]; simp), if_neg (by rw [hon]; simp)]
        rw [e1]
        have hu0 : u0 = .nilFunc := by rw [hun hon] at hu; exact hu
        refine (append_ok w B p m _ hD s (by omega) hn v bs hb hsf hl (by rw [hfa]; exact hft) hon ho hlf).mono ?_
        rintro e w' ⟨rfl, ⟨es', hab', hD'⟩, hk, hbl⟩
        refine ⟨?_, ⟨es', u0, hD', ?_, ?_, fun _ => hun hon⟩, hk, hbl⟩
        · show Ending.returned (.int .i64 (if (begA x).on = true then 0 else 18)) = Ending.returned (.int .i64 ((if (begA x).on = true then 0 else 18 : Nat) : Int))
          cases (begA x).on <;> rfl
        · rw [hab']
          show apd (ab es) _ _ = _
          rw [hab]
        · show Und w' p es' x.und u0
          rw [hun hon]
          exact hu0
/-- what Read and Size say -/
def seen (x : AD) (l : List UInt8) : Nat × List (List Nat) :=
  if isNm l = false then (1, []) else match lk x.fs l with
  | none => (7, [])
  | some t => if x.on then (0, t.2.1) else (18, [])
theorem read_any (w : World) (B p m : Nat) (x : AD) (h : DA w B p m x) (s : ByteArray) (hs : s.size ≤ 9223372036854775807) :
    Calls Tryz.prog 22 #[ptr p, .string s] w fun e w' => (∃ u, e = .returned (.tuple #[u, .int .i64 ((seen x s.data.toList).1 : Nat)]) ∧ OwnB w' w.heap.size u (flat (seen x s.data.toList).2)) ∧ Below w.heap.size w w' := by
  obtain ⟨es, u0, hD, hab, hu, hun⟩ := h
  have HD := (show Hid _ from hD)
  have hp : (ptr p) = .pointer (some ⟨p, 0, none⟩) := rfl
  cases hn : isNm s.data.toList with
  | false =>
    have e1 : seen x s.data.toList = (1, []) := by unfold seen; rw [if_pos hn]
    rw [e1, hp]
    clear hD
    go_enter Tryz.func22, Tryz.ntmps22
    go_wp2_with (go_at_call 55; refine (find_bad' _ _ s hs hn).mono ?_; rintro e w1 ⟨rfl, rfl⟩)
    refine bodyPost_ret (v := .tuple #[.slice none 0 0, .int .i64 1]) (by simp [results, Tryz.results22, go_sem]) rfl ?_
    exact ⟨⟨_, rfl, pk.own_nil _ _⟩, Below.refl _ _⟩
  | true =>
    have hs6 := nm_size hn
    cases hf : fd es s.data.toList with
    | none =>
      have e1 : seen x s.data.toList = (7, []) := by unfold seen; rw [if_neg (by rw [hn]; simp), ← hab, lk_ab, hf]; rfl
      rw [e1, hp]
      clear hD
      go_enter Tryz.func22, Tryz.ntmps22
      go_wp2_with (go_at_call 55; refine (find_none _ B p m _ HD.out s (by omega) hn hf).mono ?_; rintro e w1 ⟨rfl, rfl⟩)
      refine bodyPost_ret (v := .tuple #[.slice none 0 0, .int .i64 7]) (by simp [results, Tryz.results22, go_sem]) rfl ?_
      exact ⟨⟨_, rfl, pk.own_nil _ _⟩, Below.refl _ _⟩
    | some f =>
      cases hon : x.on with
      | false =>
        have e1 : seen x s.data.toList = (18, []) := by unfold seen; rw [if_neg (by rw [hn]; simp), ← hab, lk_ab, hf]; simp [hon]
        rw [e1, hp]
        have y2 := hD.va.cell 2 (v := .bool x.on) rfl
        rw [hon] at y2
        clear hD
        go_enter Tryz.func22, Tryz.ntmps22
        go_wp2_with (go_at_call 55; refine (find_some _ B p m _ HD.out s (by omega) hn f hf).mono ?_; rintro e w1 ⟨rfl, rfl⟩; unfold ptr)
        refine bodyPost_ret (v := .tuple #[.slice none 0 0, .int .i64 18]) (by simp [results, Tryz.results22, go_sem]) rfl ?_
        exact ⟨⟨_, rfl, pk.own_nil _ _⟩, Below.refl _ _⟩
      | true =>
        have e1 : seen x s.data.toList = (0, f.ss) := by unfold seen; rw [if_neg (by rw [hn]; simp), ← hab, lk_ab, hf]; simp [hon]
        rw [e1]
        exact read_ok w B p m _ hD s (by omega) hn f hf hon
theorem size_any (w : World) (B p m : Nat) (x : AD) (h : DA w B p m x) (s : ByteArray) (hs : s.size ≤ 9223372036854775807) :
    Calls Tryz.prog 24 #[ptr p, .string s] w fun e w' => e = .returned (.tuple #[.int .i64 (((seen x s.data.toList).2.length : Nat) : Int), .int .i64 ((seen x s.data.toList).1 : Nat)]) ∧ w' = w := by
  obtain ⟨es, u0, hD, hab, hu, hun⟩ := h
  have HD := (show Hid _ from hD)
  have hp : (ptr p) = .pointer (some ⟨p, 0, none⟩) := rfl
  cases hn : isNm s.data.toList with
  | false =>
    have e1 : seen x s.data.toList = (1, []) := by unfold seen; rw [if_pos hn]
    rw [e1, hp]
    clear hD
    go_enter Tryz.func24, Tryz.ntmps24
    go_wp2_with (go_at_call 55; refine (find_bad' _ _ s hs hn).mono ?_; rintro e w1 ⟨rfl, rfl⟩)
    refine bodyPost_ret (v := .tuple #[.int .i64 0, .int .i64 1]) (by simp [results, Tryz.results24, go_sem]) rfl ?_
    exact ⟨rfl, rfl⟩
  | true =>
    have hs6 := nm_size hn
    cases hf : fd es s.data.toList with
    | none =>
      have e1 : seen x s.data.toList = (7, []) := by unfold seen; rw [if_neg (by rw [hn]; simp), ← hab, lk_ab, hf]; rfl
      rw [e1]
      exact size_none w B p m _ hD s (by omega) hn hf
    | some f =>
      cases hon : x.on with
      | false =>
        have e1 : seen x s.data.toList = (18, []) := by unfold seen; rw [if_neg (by rw [hn]; simp), ← hab, lk_ab, hf]; simp [hon]
        rw [e1, hp]
        have y2 := hD.va.cell 2 (v := .bool x.on) rfl
        rw [hon] at y2
        clear hD
        go_enter Tryz.func24, Tryz.ntmps24
        go_wp2_with (go_at_call 55; refine (find_some _ B p m _ HD.out s (by omega) hn f hf).mono ?_; rintro e w1 ⟨rfl, rfl⟩; unfold ptr)
        refine bodyPost_ret (v := .tuple #[.int .i64 0, .int .i64 18]) (by simp [results, Tryz.results24, go_sem]) rfl ?_
        exact ⟨rfl, rfl⟩
      | true =>
        have e1 : seen x s.data.toList = (0, f.ss) := by unfold seen; rw [if_neg (by rw [hn]; simp), ← hab, lk_ab, hf]; simp [hon]
        rw [e1]
        exact size_ok w B p m _ hD s (by omega) hn f hf hon
theorem on_any (w : World) (B p m : Nat) (x : AD) (h : DA w B p m x) : Calls Tryz.prog 25 #[ptr p] w fun e w' => e = .returned (.bool x.on) ∧ w' = w := by
  obtain ⟨es, u0, hD, _⟩ := h
  exact on_ok w B p m _ hD
theorem ops_any (w : World) (B p m : Nat) (x : AD) (h : DA w B p m x) : Calls Tryz.prog 21 #[ptr p] w fun e w' => e = .returned (.int .i64 x.ops) ∧ w' = w := by
  obtain ⟨es, u0, hD, _⟩ := h
  exact ops_ok w B p m _ hD
/-- the names, or none -/
theorem names_any (w : World) (B p m : Nat) (x : AD) (h : DA w B p m x) :
    Calls Tryz.prog 40 #[ptr p] w fun e w' => ∃ v ns, e = .returned v ∧ (x.on = true → ns.Perm (x.fs.map (·.1))) ∧ (x.on = false → ns = []) ∧ ns.Pairwise (fun a b => a ≤ b) ∧ OwnN w' w.heap.size v ns ∧ (v = .slice none 0 0 ↔ ns = []) ∧ Below w.heap.size w w' := by
  have HDA : Hid (DA w B p m x) := h
  obtain ⟨es, u0, hD, hab, _⟩ := h
  have HD := (show Hid _ from hD)
  clear hD
  have hp : (ptr p) = .pointer (some ⟨p, 0, none⟩) := rfl
  rw [hp]
  cases hon : x.on with
  | false =>
    go_enter Tryz.func40, Tryz.ntmps40
    go_wp2_with (go_at_call 25; refine (on_any _ B p m x HDA.out).mono ?_; rintro e w1 ⟨rfl, rfl⟩; rw [hon])
    go_ret
    exact ⟨_, [], rfl, fun e => (by cases e), fun _ => rfl, List.Pairwise.nil, World.ownsRow_nil _ _ _ _, ⟨fun _ => rfl, fun _ => rfl⟩, Below.refl _ _⟩
  | true =>
    go_enter Tryz.func40, Tryz.ntmps40
    go_wp2_with (first | (go_at_call 25; refine (on_any _ B p m x HDA.out).mono ?_; rintro e w1 ⟨rfl, rfl⟩; rw [hon]) | (go_at_call 77; refine (sorted_ok _ B p m _ HD.out).mono ?_; rintro e w2 ⟨v, ns, rfl, hpm, hsr, hown, hnil, hb⟩))
    go_ret
    have hpm' : ns.Perm (es.map (·.nm)) := hpm
    rw [names_ab, hab] at hpm'
    exact ⟨v, ns, rfl, fun _ => hpm', fun e => (by cases e), hsr, hown, hnil, hb⟩
theorem arm_any (w : World) (B p m : Nat) (x : AD) (h : DA w B p m x) (n : Nat) (hn : n ≤ 9223372036854775807) :
    Calls Tryz.prog 26 #[ptr p, .int .i64 (n : Int)] w fun e w' => e = .returned (.int .i64 ((if x.on then 0 else 18 : Nat) : Int)) ∧ Lv w w' B p m (if x.on then { x with left := n } else x) := by
  have HDA : Hid (DA w B p m x) := h
  obtain ⟨es, u0, hD, hab, hu, hun⟩ := h
  cases hon : x.on with
  | false =>
    refine (arm_off w B p m _ hD n hn hon).mono ?_
    rintro e w' ⟨rfl, rfl⟩
    exact ⟨rfl, Lv.same HDA.out⟩
  | true =>
    refine (arm_ok w B p m _ hD n hn hon).mono ?_
    rintro e w' ⟨rfl, h1, h2, h3⟩
    have h1' : Dsk w' B p m ⟨x.room, x.ops, n, x.on, u0, es⟩ := h1
    rw [hon] at h1'
    exact ⟨rfl, ⟨es, u0, h1', hab, hu.kee h2, fun _ => hun hon⟩, h2, h3⟩
theorem new_any (n : Nat) (w : World) (h : 1 ≤ n) (h2 : n ≤ 65536) :
    Calls Tryz.prog 18 #[.int .i64 (n : Int)] w fun e w' => ∃ p m, e = .returned (.tuple #[ptr p, .int .i64 0]) ∧ DA w' w.heap.size p m ⟨n, 0, 0, true, none, []⟩ ∧ Below w.heap.size w w' := by
  refine (new_ok n w h h2).mono ?_
  rintro e w' ⟨p, m, rfl, hD, hb⟩
  exact ⟨p, m, rfl, ⟨[], .nilFunc, hD, rfl, rfl, fun _ => rfl⟩, hb⟩
end Go.Proofs.YtkmdegmpffgplaaGreatDoor
/- disk XXIX: what a few calls leave; the walk of DiskTruncated. -/
namespace Go.Proofs.YtkmdegmpffgplaaGreatDoor
open Go.RowKit Go.Maps Go.Sort Go.Shelf pk
set_option linter.unusedVariables false

theorem fitA_of {room : Nat} {fs : FS} {l : List UInt8} {k : Nat} (h1 : (lk fs l).isSome = true ∨ fs.length ≠ 64) (h2 : k + totA fs ≤ room) : fitA room fs l k = true := by
  unfold fitA
  have h3 : decide (k ≤ room - totA fs) = true := by simp; omega
  rw [h3, Bool.and_true]
  unfold lk at h1
  rcases h1 with h1 | h1
  · cases hh : fs.find? (fun t => t.1 == l) with
    | none => rw [hh] at h1; cases h1
    | some t => rfl
  · simp [h1]
theorem apnd_ok {x : AD} {l : List UInt8} {bs : List Nat} (h1 : isNm l = true) (h2 : fitA x.room x.fs l (cnt bs.length) = true) (h3 : x.on = true) : apnd x l bs = (if (begA x).on then 0 else 18, { begA x with fs := apd x.fs l (parts bs) }) := by
  unfold apnd; rw [if_neg (by rw [h1]; simp), if_neg (by rw [h2]; simp), if_neg (by rw [h3]; simp)]
theorem cut_min (w : World) (n k z : Nat) (hn : n ≤ 9223372036854775807) (hz : z = min n k) : (Builtin.min_ #[3, 3] 3 #[.int .i64 (n : Int), .int .i64 (k : Int)]).run Tryz.prog w = .ok (.int .i64 (z : Int)) w := by
  rw [run_min_int2]
  congr 2
  split <;> omega
theorem seen_on {x : AD} {l : List UInt8} {t : List UInt8 × List (List Nat) × Nat} (h1 : isNm l = true) (h2 : lk x.fs l = some t) (h3 : x.on = true) : seen x l = (0, t.2.1) := by
  unfold seen; rw [if_neg (by rw [h1]; simp), h2]; simp [h3]
theorem parts_len (bs : List Nat) : (parts bs).length = cnt bs.length := by simp [parts]
theorem flat_take (ss : List (List Nat)) (n : Nat) : flat (ss.take n) = (flat ss).take (32 * n) := by
  induction ss generalizing n with
  | nil => simp [flat]
  | cons s ss ih =>
    cases n with
    | zero => simp [flat]
    | succ n =>
      show pad32 s ++ flat (ss.take n) = (pad32 s ++ flat ss).take (32 * (n + 1))
      rw [ih, List.take_append, List.take_of_length_le (l := pad32 s) (by rw [pad32_len]; omega), pad32_len, show 32 * (n + 1) - 32 = 32 * n by omega]
end Go.Proofs.YtkmdegmpffgplaaGreatDoor
/- disk XXXI: the files in plain words: names, sums, what a crash leaves. -/
namespace Go.Proofs.YtkmdegmpffgplaaGreatDoor
open Go.RowKit Go.Maps Go.Sort Go.Shelf pk
set_option linter.unusedVariables false

def nms (fs : FS) : List (List UInt8) := fs.map (·.1)
theorem lk_isSome (fs : FS) (l : List UInt8) : (lk fs l).isSome = true ↔ l ∈ nms fs := by
  unfold lk nms
  rw [List.find?_isSome]
  constructor
  · rintro ⟨t, h1, h2⟩
    exact List.mem_map.2 ⟨t, h1, by simpa using h2⟩
  · intro h
    obtain ⟨t, h1, h2⟩ := List.mem_map.1 h
    exact ⟨t, h1, by simpa using h2⟩
theorem lk_nm {fs : FS} {l : List UInt8} {t : List UInt8 × List (List Nat) × Nat} (h : lk fs l = some t) : t.1 = l ∧ t ∈ fs := by
  unfold lk at h
  exact ⟨by simpa using List.find?_some h, List.mem_of_find?_eq_some h⟩
theorem lk_none (fs : FS) (l : List UInt8) : lk fs l = none ↔ l ∉ nms fs := by
  rw [← lk_isSome]
  cases lk fs l <;> simp
/-- a change of each file's inside -/
theorem nms_map (fs : FS) (g : List UInt8 × List (List Nat) × Nat → List UInt8 × List (List Nat) × Nat) (h : ∀ t, (g t).1 = t.1) : nms (fs.map g) = nms fs := by
  unfold nms
  rw [List.map_map]
  exact List.map_congr_left (fun t _ => h t)
theorem lk_map (fs : FS) (g : List UInt8 × List (List Nat) × Nat → List UInt8 × List (List Nat) × Nat) (h : ∀ t, (g t).1 = t.1) (l : List UInt8) : lk (fs.map g) l = (lk fs l).map g := by
  unfold lk
  rw [List.find?_map]
  congr 2
  funext t
  show ((g t).1 == l) = (t.1 == l)
  rw [h]
theorem upd1_map (fs : FS) (l : List UInt8) (ss : List (List Nat)) (sy : Nat) : upd1 fs l ss sy = fs.map (fun t => if t.1 = l then (t.1, ss, sy) else t) := by
  unfold upd1
  refine List.map_congr_left (fun t _ => ?_)
  by_cases h : t.1 = l
  · rw [if_pos h, if_pos h, h]
  · rw [if_neg h, if_neg h]
theorem nms_upd1 (fs : FS) (l : List UInt8) (ss : List (List Nat)) (sy : Nat) : nms (upd1 fs l ss sy) = nms fs := by
  rw [upd1_map]
  exact nms_map _ _ (fun t => by split <;> rfl)
theorem lk_upd1 (fs : FS) (l k : List UInt8) (ss : List (List Nat)) (sy : Nat) : lk (upd1 fs l ss sy) k = (lk fs k).map (fun t => if t.1 = l then (t.1, ss, sy) else t) := by
  rw [upd1_map]
  exact lk_map _ _ (fun t => by split <;> rfl) k
theorem nms_apd (fs : FS) (l : List UInt8) (ps : List (List Nat)) : nms (apd fs l ps) = if l ∈ nms fs then nms fs else nms fs ++ [l] := by
  induction fs with
  | nil => simp [apd, nms]
  | cons t fs ih =>
    rw [apd]
    by_cases h : t.1 = l
    · rw [if_pos h]
      simp [nms, h]
    · rw [if_neg h]
      show t.1 :: nms (apd fs l ps) = _
      rw [ih]
      have e : (l ∈ nms (t :: fs)) ↔ l ∈ nms fs := by
        show l ∈ t.1 :: nms fs ↔ _
        rw [List.mem_cons]
        exact ⟨fun h2 => h2.resolve_left (fun e => h e.symm), .inr⟩
      by_cases h2 : l ∈ nms fs
      · rw [if_pos h2, if_pos (e.2 h2)]; rfl
      · rw [if_neg h2, if_neg (fun h3 => h2 (e.1 h3))]; rfl
theorem tot_apd (fs : FS) (l : List UInt8) (ps : List (List Nat)) : totA (apd fs l ps) = totA fs + ps.length := by
  induction fs with
  | nil => simp [apd, totA]
  | cons t fs ih =>
    obtain ⟨n, ss, sy⟩ := t
    rw [apd]
    split
    · simp [totA]; omega
    · simp only [totA, ih]; omega
theorem lk_apd_other (fs : FS) (l k : List UInt8) (ps : List (List Nat)) (h : k ≠ l) : lk (apd fs l ps) k = lk fs k := by
  unfold lk
  induction fs with
  | nil => rw [apd, List.find?_cons, show (l == k) = false from beq_eq_false_iff_ne.2 (fun e => h e.symm)]
  | cons t fs ih =>
    rw [apd]
    by_cases h1 : t.1 = l
    · rw [if_pos h1, List.find?_cons, List.find?_cons, show (t.1 == k) = false by rw [h1]; exact beq_eq_false_iff_ne.2 (fun e => h e.symm)]
    · rw [if_neg h1, List.find?_cons, List.find?_cons, ih]
theorem lk_apd_same (fs : FS) (l : List UInt8) (ps : List (List Nat)) : lk (apd fs l ps) l = some (match lk fs l with | none => (l, ps, 0) | some t => (t.1, t.2.1 ++ ps, t.2.2)) := by
  unfold lk
  induction fs with
  | nil => simp [apd]
  | cons t fs ih =>
    rw [apd]
    by_cases h1 : t.1 = l
    · rw [if_pos h1, List.find?_cons, List.find?_cons, show (t.1 == l) = true by simp [h1]]
    · rw [if_neg h1, List.find?_cons, List.find?_cons, show (t.1 == l) = false from beq_eq_false_iff_ne.2 h1, ih]
theorem tot_map_le (fs : FS) (g : List UInt8 × List (List Nat) × Nat → List UInt8 × List (List Nat) × Nat) (h : ∀ t, (g t).2.1.length ≤ t.2.1.length) : totA (fs.map g) ≤ totA fs := by
  induction fs with
  | nil => exact Nat.le_refl _
  | cons t fs ih =>
    have := h t
    simp only [List.map_cons, totA]
    omega
theorem sync_fs (fs : FS) (a b : List UInt8) (n : Nat) : doOp ⟨1, a, b, n⟩ fs = fs.map (fun t => if t.1 = a then (t.1, t.2.1, t.2.1.length) else t) := rfl
theorem trunc_fs (fs : FS) (a b : List UInt8) (n : Nat) : doOp ⟨2, a, b, n⟩ fs = fs.map (fun t => if t.1 = a then (t.1, t.2.1.take n, min n t.2.1.length) else t) := rfl
/-- what a crash leaves: the names -/
theorem nms_stl_aux (ks : List Bool) (ns : List (List UInt8)) : ∀ st : FS × Nat, nms (ns.foldl (stp ks) st).1 = nms st.1 := by
  induction ns with
  | nil => intro st; rfl
  | cons n ns ih =>
    intro st
    show nms (ns.foldl (stp ks) (stp ks st n)).1 = _
    rw [ih]
    unfold stp
    split
    · exact nms_upd1 _ _ _ _
    · rfl
theorem nms_stl (ks : List Bool) (ns : List (List UInt8)) (fs : FS) : nms (stl ks ns fs).1 = nms fs := nms_stl_aux ks ns (fs, 0)
/-- what a crash leaves of a file: some place of the flags is where its first sector that isn't synced stands -/
theorem lk_stl_aux (ks : List Bool) (ns : List (List UInt8)) (hnd : ns.Nodup) : ∀ (st : FS × Nat) (l : List UInt8) (t : List UInt8 × List (List Nat) × Nat), lk st.1 l = some t →
    lk (ns.foldl (stp ks) st).1 l = some t ∧ l ∉ ns ∨ l ∈ ns ∧ ∃ i, lk (ns.foldl (stp ks) st).1 l = some (l, zf ks i t.2.2 t.2.1.length t.2.1, t.2.1.length) := by
  induction ns with
  | nil => intro st l t h; exact .inl ⟨h, by simp⟩
  | cons n ns ih =>
    intro st l t h
    obtain ⟨h1, h2⟩ := List.nodup_cons.1 hnd
    show lk (ns.foldl (stp ks) (stp ks st n)).1 l = some t ∧ _ ∨ _
    by_cases hl : n = l
    · subst hl
      have hs : stp ks st n = (upd1 st.1 n (zf ks st.2 t.2.2 t.2.1.length t.2.1) t.2.1.length, st.2 + (t.2.1.length - t.2.2)) := by
        unfold stp
        unfold lk at h
        rw [h]
      have hlk : lk (stp ks st n).1 n = some (n, zf ks st.2 t.2.2 t.2.1.length t.2.1, t.2.1.length) := by
        rw [hs]
        show lk (upd1 _ _ _ _) n = _
        rw [lk_upd1, h]
        simp [(lk_nm h).1]
      rcases ih h2 (stp ks st n) n _ hlk with ⟨h3, h4⟩ | ⟨h3, _⟩
      · exact .inr ⟨List.mem_cons_self .., st.2, h3⟩
      · exact absurd h3 h1
    · have hlk : lk (stp ks st n).1 l = some t := by
        unfold stp
        split
        · rw [lk_upd1, h]
          simp only [Option.map_some, Option.some.injEq]
          rw [if_neg (by rw [(lk_nm h).1]; exact fun e => hl e.symm)]
        · exact h
      rcases ih h2 (stp ks st n) l _ hlk with ⟨h3, h4⟩ | ⟨h3, i, h4⟩
      · exact .inl ⟨h3, by simp; exact ⟨fun e => hl e.symm, h4⟩⟩
      · exact .inr ⟨List.mem_cons_of_mem _ h3, i, h4⟩
theorem lk_stl {ks : List Bool} {ns : List (List UInt8)} {fs : FS} (hp : ns.Perm (nms fs)) (hnd : (nms fs).Nodup) {l : List UInt8} {t : List UInt8 × List (List Nat) × Nat} (h : lk fs l = some t) :
    ∃ i, lk (stl ks ns fs).1 l = some (l, zf ks i t.2.2 t.2.1.length t.2.1, t.2.1.length) := by
  have hn : ns.Nodup := hp.nodup_iff.2 hnd
  have hm : l ∈ ns := hp.mem_iff.2 ((lk_isSome fs l).1 (by rw [h]; rfl))
  rcases lk_stl_aux ks ns hn (fs, 0) l t h with ⟨_, h2⟩ | ⟨_, h2⟩
  · exact absurd hm h2
  · exact h2
theorem DA.nodup {w : World} {B p m : Nat} {x : AD} (h : DA w B p m x) : (nms x.fs).Nodup := by
  obtain ⟨es, u, hD, hab, _⟩ := h
  unfold nms
  rw [← hab, ← names_ab]
  exact List.pairwise_map.2 (hD.ap.imp (fun h => h.1))
theorem oper_idle {R n : Nat} {fs : FS} {o : POp} (h1 : isNm o.a = true) (hb : o.k = 3 → isNm o.b = true) (hf : (lk fs o.a).isSome = true) : oper ⟨R, n, 0, true, none, fs⟩ o = (0, ⟨R, n + 1, 0, true, none, doOp o fs⟩) := by
  rw [oper_on h1 hb hf rfl]
  rfl
theorem apnd_idle {R n : Nat} {fs : FS} {l : List UInt8} {bs : List Nat} (h1 : isNm l = true) (hf : fitA R fs l (cnt bs.length) = true) : apnd ⟨R, n, 0, true, none, fs⟩ l bs = (0, ⟨R, n + 1, 0, true, none, apd fs l (parts bs)⟩) := by
  rw [apnd_ok h1 hf rfl]
  rfl
theorem apnd_last {R n : Nat} {fs : FS} {l : List UInt8} {bs : List Nat} (h1 : isNm l = true) (hf : fitA R fs l (cnt bs.length) = true) : apnd ⟨R, n, 1, true, none, fs⟩ l bs = (18, ⟨R, n + 1, 0, false, none, apd fs l (parts bs)⟩) := by
  rw [apnd_ok h1 hf rfl]
  rfl
theorem bl_nil (w : World) : Bl w (.slice none 0 0) [] ∧ Safe w (.slice none 0 0) := ⟨⟨none, 0, rfl, Nat.le_refl _, by omega, fun h => (by cases h)⟩, fun b off n c e => (by cases e)⟩
end Go.Proofs.YtkmdegmpffgplaaGreatDoor
