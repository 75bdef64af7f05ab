/- disk XXVIII: New, Append, Read, Size, Names, Arm, On, Ops, whatever comes. -/
import Derived.Test.YtakgkpiicigihaaDlb
import Derived.Test.YtakgkpiicigihaaAc
import Derived.Test.YtakgkpiicigihaaRwb
import Derived.Test.YtakgkpiicigihaaCam
namespace Go.Proofs.Ytakgkpiicigihaa
open Go.RowKit Go.Maps Go.Sort Go.Shelf pk
set_option linter.unusedVariables false

/-- what Append answers, and leaves -/
def apnd (x : AD) (l : List UInt8) (bs : List Nat) : Nat × AD :=
  if isNm l = false then (1, x)
  else if fitA x.room x.fs l (cnt bs.length) = false then (17, x)
  else if x.on = false then (18, x)
  else (if (begA x).on then 0 else 18, { begA x with fs := apd x.fs l (parts bs) })
theorem append_any (w : World) (B p m : Nat) (x : AD) (h : DA w B p m x) (s : ByteArray) (hs : s.size ≤ 9223372036854775807) (v : Value) (bs : List Nat) (hb : Bs w v bs) (hsf : Safe w v) (hl : bs.length ≤ 140737488355328) (ho : x.ops ≤ 4611686018427387904) (hlf : x.left ≤ 9223372036854775807) :
    Calls Try.prog 14 #[ptr p, .string s, v] w fun r w' => r = .returned (.int .i64 ((apnd x s.data.toList bs).1 : Nat)) ∧ Lv w w' B p m (apnd x s.data.toList bs).2 := by
  have HDA : Hid (DA w B p m x) := h
  obtain ⟨es, u0, hD, hab, hu, hun⟩ := h
  have HD := (show Hid _ from hD)
  have hfa : fit ⟨x.room, x.ops, x.left, x.on, u0, es⟩ s.data.toList (cnt bs.length) = fitA x.room x.fs s.data.toList (cnt bs.length) := by rw [fit_ab]; show fitA x.room (ab es) _ _ = _; rw [hab]
  have hp : (ptr p) = .pointer (some ⟨p, 0, none⟩) := rfl
  cases hn : isNm s.data.toList with
  | false =>
    have e1 : apnd x s.data.toList bs = (1, x) := by unfold apnd; rw [if_pos hn]
    rw [e1, hp]
    obtain ⟨hby, a, c, rfl, _⟩ := hb
    clear hD
    go_enter Try.func14, Try.ntmps14
    go_wp2_with (go_at_call 41; refine (isName_ok s _ hs).mono ?_; rintro e w1 ⟨rfl, rfl⟩; rw [hn])
    go_ret
    exact ⟨rfl, Lv.same HDA.out⟩
  | true =>
    have hs6 := nm_size hn
    cases hft : fitA x.room x.fs s.data.toList (cnt bs.length) with
    | false =>
      have e1 : apnd x s.data.toList bs = (17, x) := by unfold apnd; rw [if_neg (by rw [hn]; simp), if_pos hft]
      rw [e1]
      refine (append_full w B p m _ hD s (by omega) hn v bs hb hl (by rw [hfa]; exact hft)).mono ?_
      rintro e w' ⟨rfl, hbl⟩
      exact ⟨rfl, Lv.step HDA.out hbl⟩
    | true =>
      cases hon : x.on with
      | false =>
        have e1 : apnd x s.data.toList bs = (18, x) := by unfold apnd; rw [if_neg (by rw [hn]; simp), if_neg (by rw [hft]; simp), if_pos hon]
        rw [e1, hp]
        have HBS := (show Hid _ from hb)
        obtain ⟨hby, a, c, rfl, _⟩ := hb
        clear hD hby
        go_enter Try.func14, Try.ntmps14
        go_wp2_with (first | (go_at_call 41; refine (isName_ok s _ hs).mono ?_; rintro e w1 ⟨rfl, hw1⟩; obtain rfl := hw1.symm; rw [hn]) | (go_at_call 42; refine (fits_ok _ B p m _ HD.out s (by omega) _ bs HBS.out hl).mono ?_; rintro e w2 ⟨rfl, b2⟩; rw [hfa, hft]; have y2 := (HD.out.step b2).va.cell 2 (v := .bool x.on) rfl; rw [hon] at y2))
        go_ret
        exact ⟨rfl, Lv.step HDA.out b2⟩
      | true =>
        have e1 : apnd x s.data.toList bs = (if (begA x).on then 0 else 18, { begA x with fs := apd x.fs s.data.toList (parts bs) }) := by unfold apnd; rw [if_neg (by rw [hn]; simp), if_neg (by rw [hft]; simp), if_neg (by rw [hon]; simp)]
        rw [e1]
        have hu0 : u0 = .nilFunc := by rw [hun hon] at hu; exact hu
        refine (append_ok w B p m _ hD s (by omega) hn v bs hb hsf hl (by rw [hfa]; exact hft) hon ho hlf).mono ?_
        rintro e w' ⟨rfl, ⟨es', hab', hD'⟩, hk, hbl⟩
        refine ⟨?_, ⟨es', u0, hD', ?_, ?_, fun _ => hun hon⟩, hk, hbl⟩
        · show Ending.returned (.int .i64 (if (begA x).on = true then 0 else 18)) = Ending.returned (.int .i64 ((if (begA x).on = true then 0 else 18 : Nat) : Int))
          cases (begA x).on <;> rfl
        · rw [hab']
          show apd (ab es) _ _ = _
          rw [hab]
        · show Und w' p es' x.und u0
          rw [hun hon]
          exact hu0
/-- what Read and Size say -/
def seen (x : AD) (l : List UInt8) : Nat × List (List Nat) :=
  if isNm l = false then (1, []) else match lk x.fs l with
  | none => (7, [])
  | some t => if x.on then (0, t.2.1) else (18, [])
theorem read_any (w : World) (B p m : Nat) (x : AD) (h : DA w B p m x) (s : ByteArray) (hs : s.size ≤ 9223372036854775807) :
    Calls Try.prog 17 #[ptr p, .string s] w fun e w' => (∃ u, e = .returned (.tuple #[u, .int .i64 ((seen x s.data.toList).1 : Nat)]) ∧ OwnB w' w.heap.size u (flat (seen x s.data.toList).2)) ∧ Below w.heap.size w w' := by
  obtain ⟨es, u0, hD, hab, hu, hun⟩ := h
  have HD := (show Hid _ from hD)
  have hp : (ptr p) = .pointer (some ⟨p, 0, none⟩) := rfl
  cases hn : isNm s.data.toList with
  | false =>
    have e1 : seen x s.data.toList = (1, []) := by unfold seen; rw [if_pos hn]
    rw [e1, hp]
    clear hD
    go_enter Try.func17, Try.ntmps17
    go_wp2_with (go_at_call 45; refine (find_bad' _ _ s hs hn).mono ?_; rintro e w1 ⟨rfl, rfl⟩)
    refine bodyPost_ret (v := .tuple #[.slice none 0 0, .int .i64 1]) (by simp [results, Try.results17, go_sem]) rfl ?_
    exact ⟨⟨_, rfl, pk.own_nil _ _⟩, Below.refl _ _⟩
  | true =>
    have hs6 := nm_size hn
    cases hf : fd es s.data.toList with
    | none =>
      have e1 : seen x s.data.toList = (7, []) := by unfold seen; rw [if_neg (by rw [hn]; simp), ← hab, lk_ab, hf]; rfl
      rw [e1, hp]
      clear hD
      go_enter Try.func17, Try.ntmps17
      go_wp2_with (go_at_call 45; refine (find_none _ B p m _ HD.out s (by omega) hn hf).mono ?_; rintro e w1 ⟨rfl, rfl⟩)
      refine bodyPost_ret (v := .tuple #[.slice none 0 0, .int .i64 7]) (by simp [results, Try.results17, go_sem]) rfl ?_
      exact ⟨⟨_, rfl, pk.own_nil _ _⟩, Below.refl _ _⟩
    | some f =>
      cases hon : x.on with
      | false =>
        have e1 : seen x s.data.toList = (18, []) := by unfold seen; rw [if_neg (by rw [hn]; simp), ← hab, lk_ab, hf]; simp [hon]
        rw [e1, hp]
        have y2 := hD.va.cell 2 (v := .bool x.on) rfl
        rw [hon] at y2
        clear hD
        go_enter Try.func17, Try.ntmps17
        go_wp2_with (go_at_call 45; refine (find_some _ B p m _ HD.out s (by omega) hn f hf).mono ?_; rintro e w1 ⟨rfl, rfl⟩; unfold ptr)
        refine bodyPost_ret (v := .tuple #[.slice none 0 0, .int .i64 18]) (by simp [results, Try.results17, go_sem]) rfl ?_
        exact ⟨⟨_, rfl, pk.own_nil _ _⟩, Below.refl _ _⟩
      | true =>
        have e1 : seen x s.data.toList = (0, f.ss) := by unfold seen; rw [if_neg (by rw [hn]; simp), ← hab, lk_ab, hf]; simp [hon]
        rw [e1]
        exact read_ok w B p m _ hD s (by omega) hn f hf hon
theorem size_any (w : World) (B p m : Nat) (x : AD) (h : DA w B p m x) (s : ByteArray) (hs : s.size ≤ 9223372036854775807) :
    Calls Try.prog 23 #[ptr p, .string s] w fun e w' => e = .returned (.tuple #[.int .i64 (((seen x s.data.toList).2.length : Nat) : Int), .int .i64 ((seen x s.data.toList).1 : Nat)]) ∧ w' = w := by
  obtain ⟨es, u0, hD, hab, hu, hun⟩ := h
  have HD := (show Hid _ from hD)
  have hp : (ptr p) = .pointer (some ⟨p, 0, none⟩) := rfl
  cases hn : isNm s.data.toList with
  | false =>
    have e1 : seen x s.data.toList = (1, []) := by unfold seen; rw [if_pos hn]
    rw [e1, hp]
    clear hD
    go_enter Try.func23, Try.ntmps23
    go_wp2_with (go_at_call 45; refine (find_bad' _ _ s hs hn).mono ?_; rintro e w1 ⟨rfl, rfl⟩)
    refine bodyPost_ret (v := .tuple #[.int .i64 0, .int .i64 1]) (by simp [results, Try.results23, go_sem]) rfl ?_
    exact ⟨rfl, rfl⟩
  | true =>
    have hs6 := nm_size hn
    cases hf : fd es s.data.toList with
    | none =>
      have e1 : seen x s.data.toList = (7, []) := by unfold seen; rw [if_neg (by rw [hn]; simp), ← hab, lk_ab, hf]; rfl
      rw [e1]
      exact size_none w B p m _ hD s (by omega) hn hf
    | some f =>
      cases hon : x.on with
      | false =>
        have e1 : seen x s.data.toList = (18, []) := by unfold seen; rw [if_neg (by rw [hn]; simp), ← hab, lk_ab, hf]; simp [hon]
        rw [e1, hp]
        have y2 := hD.va.cell 2 (v := .bool x.on) rfl
        rw [hon] at y2
        clear hD
        go_enter Try.func23, Try.ntmps23
        go_wp2_with (go_at_call 45; refine (find_some _ B p m _ HD.out s (by omega) hn f hf).mono ?_; rintro e w1 ⟨rfl, rfl⟩; unfold ptr)
        refine bodyPost_ret (v := .tuple #[.int .i64 0, .int .i64 18]) (by simp [results, Try.results23, go_sem]) rfl ?_
        exact ⟨rfl, rfl⟩
      | true =>
        have e1 : seen x s.data.toList = (0, f.ss) := by unfold seen; rw [if_neg (by rw [hn]; simp), ← hab, lk_ab, hf]; simp [hon]
        rw [e1]
        exact size_ok w B p m _ hD s (by omega) hn f hf hon
theorem on_any (w : World) (B p m : Nat) (x : AD) (h : DA w B p m x) : Calls Try.prog 26 #[ptr p] w fun e w' => e = .returned (.bool x.on) ∧ w' = w := by
  obtain ⟨es, u0, hD, _⟩ := h
  exact on_ok w B p m _ hD
theorem ops_any (w : World) (B p m : Nat) (x : AD) (h : DA w B p m x) : Calls Try.prog 25 #[ptr p] w fun e w' => e = .returned (.int .i64 x.ops) ∧ w' = w := by
  obtain ⟨es, u0, hD, _⟩ := h
  exact ops_ok w B p m _ hD
/-- the names, or none -/
theorem names_any (w : World) (B p m : Nat) (x : AD) (h : DA w B p m x) :
    Calls Try.prog 27 #[ptr p] w fun e w' => ∃ v ns, e = .returned v ∧ (x.on = true → ns.Perm (x.fs.map (·.1))) ∧ (x.on = false → ns = []) ∧ ns.Pairwise (fun a b => a ≤ b) ∧ OwnN w' w.heap.size v ns ∧ (v = .slice none 0 0 ↔ ns = []) ∧ Below w.heap.size w w' := by
  have HDA : Hid (DA w B p m x) := h
  obtain ⟨es, u0, hD, hab, _⟩ := h
  have HD := (show Hid _ from hD)
  clear hD
  have hp : (ptr p) = .pointer (some ⟨p, 0, none⟩) := rfl
  rw [hp]
  cases hon : x.on with
  | false =>
    go_enter Try.func27, Try.ntmps27
    go_wp2_with (go_at_call 26; refine (on_any _ B p m x HDA.out).mono ?_; rintro e w1 ⟨rfl, rfl⟩; rw [hon])
    go_ret
    exact ⟨_, [], rfl, fun e => (by cases e), fun _ => rfl, List.Pairwise.nil, World.ownsRow_nil _ _ _ _, ⟨fun _ => rfl, fun _ => rfl⟩, Below.refl _ _⟩
  | true =>
    go_enter Try.func27, Try.ntmps27
    go_wp2_with (first | (go_at_call 26; refine (on_any _ B p m x HDA.out).mono ?_; rintro e w1 ⟨rfl, rfl⟩; rw [hon]) | (go_at_call 54; refine (sorted_ok _ B p m _ HD.out).mono ?_; rintro e w2 ⟨v, ns, rfl, hpm, hsr, hown, hnil, hb⟩))
    go_ret
    have hpm' : ns.Perm (es.map (·.nm)) := hpm
    rw [names_ab, hab] at hpm'
    exact ⟨v, ns, rfl, fun _ => hpm', fun e => (by cases e), hsr, hown, hnil, hb⟩
theorem arm_any (w : World) (B p m : Nat) (x : AD) (h : DA w B p m x) (n : Nat) (hn : n ≤ 9223372036854775807) :
    Calls Try.prog 18 #[ptr p, .int .i64 (n : Int)] w fun e w' => e = .returned (.int .i64 ((if x.on then 0 else 18 : Nat) : Int)) ∧ Lv w w' B p m (if x.on then { x with left := n } else x) := by
  have HDA : Hid (DA w B p m x) := h
  obtain ⟨es, u0, hD, hab, hu, hun⟩ := h
  cases hon : x.on with
  | false =>
    refine (arm_off w B p m _ hD n hn hon).mono ?_
    rintro e w' ⟨rfl, rfl⟩
    exact ⟨rfl, Lv.same HDA.out⟩
  | true =>
    refine (arm_ok w B p m _ hD n hn hon).mono ?_
    rintro e w' ⟨rfl, h1, h2, h3⟩
    have h1' : Dsk w' B p m ⟨x.room, x.ops, n, x.on, u0, es⟩ := h1
    rw [hon] at h1'
    exact ⟨rfl, ⟨es, u0, h1', hab, hu.kee h2, fun _ => hun hon⟩, h2, h3⟩
theorem new_any (n : Nat) (w : World) (h : 1 ≤ n) (h2 : n ≤ 65536) :
    Calls Try.prog 10 #[.int .i64 (n : Int)] w fun e w' => ∃ p m, e = .returned (.tuple #[ptr p, .int .i64 0]) ∧ DA w' w.heap.size p m ⟨n, 0, 0, true, none, []⟩ ∧ Below w.heap.size w w' := by
  refine (new_ok n w h h2).mono ?_
  rintro e w' ⟨p, m, rfl, hD, hb⟩
  exact ⟨p, m, rfl, ⟨[], .nilFunc, hD, rfl, rfl, fun _ => rfl⟩, hb⟩
end Go.Proofs.Ytakgkpiicigihaa
/- disk XXIX: what a few calls leave; the walk of DiskTruncated. -/
namespace Go.Proofs.Ytakgkpiicigihaa
open Go.RowKit Go.Maps Go.Sort Go.Shelf pk
set_option linter.unusedVariables false

theorem fitA_of {room : Nat} {fs : FS} {l : List UInt8} {k : Nat} (h1 : (lk fs l).isSome = true ∨ fs.length ≠ 64) (h2 : k + totA fs ≤ room) : fitA room fs l k = true := by
  unfold fitA
  have h3 : decide (k ≤ room - totA fs) = true := by simp; omega
  rw [h3, Bool.and_true]
  unfold lk at h1
  rcases h1 with h1 | h1
  · cases hh : fs.find? (fun t => t.1 == l) with
    | none => rw [hh] at h1; cases h1
    | some t => rfl
  · simp [h1]
theorem apnd_ok {x : AD} {l : List UInt8} {bs : List Nat} (h1 : isNm l = true) (h2 : fitA x.room x.fs l (cnt bs.length) = true) (h3 : x.on = true) : apnd x l bs = (if (begA x).on then 0 else 18, { begA x with fs := apd x.fs l (parts bs) }) := by
  unfold apnd; rw [if_neg (by rw [h1]; simp), if_neg (by rw [h2]; simp), if_neg (by rw [h3]; simp)]
theorem cut_min (w : World) (n k z : Nat) (hn : n ≤ 9223372036854775807) (hz : z = min n k) : (Builtin.min_ #[3, 3] 3 #[.int .i64 (n : Int), .int .i64 (k : Int)]).run Try.prog w = .ok (.int .i64 (z : Int)) w := by
  rw [run_min_int2]
  congr 2
  split <;> omega
theorem seen_on {x : AD} {l : List UInt8} {t : List UInt8 × List (List Nat) × Nat} (h1 : isNm l = true) (h2 : lk x.fs l = some t) (h3 : x.on = true) : seen x l = (0, t.2.1) := by
  unfold seen; rw [if_neg (by rw [h1]; simp), h2]; simp [h3]
theorem parts_len (bs : List Nat) : (parts bs).length = cnt bs.length := by simp [parts]
theorem flat_take (ss : List (List Nat)) (n : Nat) : flat (ss.take n) = (flat ss).take (32 * n) := by
  induction ss generalizing n with
  | nil => simp [flat]
  | cons s ss ih =>
    cases n with
    | zero => simp [flat]
    | succ n =>
      show pad32 s ++ flat (ss.take n) = (pad32 s ++ flat ss).take (32 * (n + 1))
      rw [ih, List.take_append, List.take_of_length_le (l := pad32 s) (by rw [pad32_len]; omega), pad32_len, show 32 * (n + 1) - 32 = 32 * n by omega]
end Go.Proofs.Ytakgkpiicigihaa
/- disk XXXI: the files in plain words: names, sums, what a crash leaves. -/
namespace Go.Proofs.Ytakgkpiicigihaa
open Go.RowKit Go.Maps Go.Sort Go.Shelf pk
set_option linter.unusedVariables false

def nms (fs : FS) : List (List UInt8) := fs.map (·.1)
theorem lk_isSome (fs : FS) (l : List UInt8) : (lk fs l).isSome = true ↔ l ∈ nms fs := by
  unfold lk nms
  rw [List.find?_isSome]
  constructor
  · rintro ⟨t, h1, h2⟩
    exact List.mem_map.2 ⟨t, h1, by simpa using h2⟩
  · intro h
    obtain ⟨t, h1, h2⟩ := List.mem_map.1 h
    exact ⟨t, h1, by simpa using h2⟩
theorem lk_nm {fs : FS} {l : List UInt8} {t : List UInt8 × List (List Nat) × Nat} (h : lk fs l = some t) : t.1 = l ∧ t ∈ fs := by
  unfold lk at h
  exact ⟨by simpa using List.find?_some h, List.mem_of_find?_eq_some h⟩
theorem lk_none (fs : FS) (l : List UInt8) : lk fs l = none ↔ l ∉ nms fs := by
  rw [← lk_isSome]
  cases lk fs l <;> simp
/-- a change of each file's inside -/
theorem nms_map (fs : FS) (g : List UInt8 × List (List Nat) × Nat → List UInt8 × List (List Nat) × Nat) (h : ∀ t, (g t).1 = t.1) : nms (fs.map g) = nms fs := by
  unfold nms
  rw [List.map_map]
  exact List.map_congr_left (fun t _ => h t)
theorem lk_map (fs : FS) (g : List UInt8 × List (List Nat) × Nat → List UInt8 × List (List Nat) × Nat) (h : ∀ t, (g t).1 = t.1) (l : List UInt8) : lk (fs.map g) l = (lk fs l).map g := by
  unfold lk
  rw [List.find?_map]
  congr 2
  funext t
  show ((g t).1 == l) = (t.1 == l)
  rw [h]
theorem upd1_map (fs : FS) (l : List UInt8) (ss : List (List Nat)) (sy : Nat) : upd1 fs l ss sy = fs.map (fun t => if t.1 = l then (t.1, ss, sy) else t) := by
  unfold upd1
  refine List.map_congr_left (fun t _ => ?_)
  by_cases h : t.1 = l
  · rw [if_pos h, if_pos h, h]
  · rw [if_neg h, if_neg h]
theorem nms_upd1 (fs : FS) (l : List UInt8) (ss : List (List Nat)) (sy : Nat) : nms (upd1 fs l ss sy) = nms fs := by
  rw [upd1_map]
  exact nms_map _ _ (fun t => by split <;> rfl)
theorem lk_upd1 (fs : FS) (l k : List UInt8) (ss : List (List Nat)) (sy : Nat) : lk (upd1 fs l ss sy) k = (lk fs k).map (fun t => if t.1 = l then (t.1, ss, sy) else t) := by
  rw [upd1_map]
  exact lk_map _ _ (fun t => by split <;> rfl) k
theorem nms_apd (fs : FS) (l : List UInt8) (ps : List (List Nat)) : nms (apd fs l ps) = if l ∈ nms fs then nms fs else nms fs ++ [l] := by
  induction fs with
  | nil => simp [apd, nms]
  | cons t fs ih =>
    rw [apd]
    by_cases h : t.1 = l
    · rw [if_pos h]
      simp [nms, h]
    · rw [if_neg h]
      show t.1 :: nms (apd fs l ps) = _
      rw [ih]
      have e : (l ∈ nms (t :: fs)) ↔ l ∈ nms fs := by
        show l ∈ t.1 :: nms fs ↔ _
        rw [List.mem_cons]
        exact ⟨fun h2 => h2.resolve_left (fun e => h e.symm), .inr⟩
      by_cases h2 : l ∈ nms fs
      · rw [if_pos h2, if_pos (e.2 h2)]; rfl
      · rw [if_neg h2, if_neg (fun h3 => h2 (e.1 h3))]; rfl
theorem tot_apd (fs : FS) (l : List UInt8) (ps : List (List Nat)) : totA (apd fs l ps) = totA fs + ps.length := by
  induction fs with
  | nil => simp [apd, totA]
  | cons t fs ih =>
    obtain ⟨n, ss, sy⟩ := t
    rw [apd]
    split
    · simp [totA]; omega
    · simp only [totA, ih]; omega
theorem lk_apd_other (fs : FS) (l k : List UInt8) (ps : List (List Nat)) (h : k ≠ l) : lk (apd fs l ps) k = lk fs k := by
  unfold lk
  induction fs with
  | nil => rw [apd, List.find?_cons, show (l == k) = false from beq_eq_false_iff_ne.2 (fun e => h e.symm)]
  | cons t fs ih =>
    rw [apd]
    by_cases h1 : t.1 = l
    · rw [if_pos h1, List.find?_cons, List.find?_cons, show (t.1 == k) = false by rw [h1]; exact beq_eq_false_iff_ne.2 (fun e => h e.symm)]
    · rw [if_neg h1, List.find?_cons, List.find?_cons, ih]
theorem lk_apd_same (fs : FS) (l : List UInt8) (ps : List (List Nat)) : lk (apd fs l ps) l = some (match lk fs l with | none => (l, ps, 0) | some t => (t.1, t.2.1 ++ ps, t.2.2)) := by
  unfold lk
  induction fs with
  | nil => simp [apd]
  | cons t fs ih =>
    rw [apd]
    by_cases h1 : t.1 = l
    · rw [if_pos h1, List.find?_cons, List.find?_cons, show (t.1 == l) = true by simp [h1]]
    · rw [if_neg h1, List.find?_cons, List.find?_cons, show (t.1 == l) = false from beq_eq_false_iff_ne.2 h1, ih]
theorem tot_map_le (fs : FS) (g : List UInt8 × List (List Nat) × Nat → List UInt8 × List (List Nat) × Nat) (h : ∀ t, (g t).2.1.length ≤ t.2.1.length) : totA (fs.map g) ≤ totA fs := by
  induction fs with
  | nil => exact Nat.le_refl _
  | cons t fs ih =>
    have := h t
    simp only [List.map_cons, totA]
    omega
theorem sync_fs (fs : FS) (a b : List UInt8) (n : Nat) : doOp ⟨1, a, b, n⟩ fs = fs.map (fun t => if t.1 = a then (t.1, t.2.1, t.2.1.length) else t) := rfl
theorem trunc_fs (fs : FS) (a b : List UInt8) (n : Nat) : doOp ⟨2, a, b, n⟩ fs = fs.map (fun t => if t.1 = a then (t.1, t.2.1.take n, min n t.2.1.length) else t) := rfl
/-- what a crash leaves: the names -/
theorem nms_stl_aux (ks : List Bool) (ns : List (List UInt8)) : ∀ st : FS × Nat, nms (ns.foldl (stp ks) st).1 = nms st.1 := by
  induction ns with
  | nil => intro st; rfl
  | cons n ns ih =>
    intro st
    show nms (ns.foldl (stp ks) (stp ks st n)).1 = _
    rw [ih]
    unfold stp
    split
    · exact nms_upd1 _ _ _ _
    · rfl
theorem nms_stl (ks : List Bool) (ns : List (List UInt8)) (fs : FS) : nms (stl ks ns fs).1 = nms fs := nms_stl_aux ks ns (fs, 0)
/-- what a crash leaves of a file: some place of the flags is where its first sector that isn't synced stands -/
theorem lk_stl_aux (ks : List Bool) (ns : List (List UInt8)) (hnd : ns.Nodup) : ∀ (st : FS × Nat) (l : List UInt8) (t : List UInt8 × List (List Nat) × Nat), lk st.1 l = some t →
    lk (ns.foldl (stp ks) st).1 l = some t ∧ l ∉ ns ∨ l ∈ ns ∧ ∃ i, lk (ns.foldl (stp ks) st).1 l = some (l, zf ks i t.2.2 t.2.1.length t.2.1, t.2.1.length) := by
  induction ns with
  | nil => intro st l t h; exact .inl ⟨h, by simp⟩
  | cons n ns ih =>
    intro st l t h
    obtain ⟨h1, h2⟩ := List.nodup_cons.1 hnd
    show lk (ns.foldl (stp ks) (stp ks st n)).1 l = some t ∧ _ ∨ _
    by_cases hl : n = l
    · subst hl
      have hs : stp ks st n = (upd1 st.1 n (zf ks st.2 t.2.2 t.2.1.length t.2.1) t.2.1.length, st.2 + (t.2.1.length - t.2.2)) := by
        unfold stp
        unfold lk at h
        rw [h]
      have hlk : lk (stp ks st n).1 n = some (n, zf ks st.2 t.2.2 t.2.1.length t.2.1, t.2.1.length) := by
        rw [hs]
        show lk (upd1 _ _ _ _) n = _
        rw [lk_upd1, h]
        simp [(lk_nm h).1]
      rcases ih h2 (stp ks st n) n _ hlk with ⟨h3, h4⟩ | ⟨h3, _⟩
      · exact .inr ⟨List.mem_cons_self .., st.2, h3⟩
      · exact absurd h3 h1
    · have hlk : lk (stp ks st n).1 l = some t := by
        unfold stp
        split
        · rw [lk_upd1, h]
          simp only [Option.map_some, Option.some.injEq]
          rw [if_neg (by rw [(lk_nm h).1]; exact fun e => hl e.symm)]
        · exact h
      rcases ih h2 (stp ks st n) l _ hlk with ⟨h3, h4⟩ | ⟨h3, i, h4⟩
      · exact .inl ⟨h3, by simp; exact ⟨fun e => hl e.symm, h4⟩⟩
      · exact .inr ⟨List.mem_cons_of_mem _ h3, i, h4⟩
theorem lk_stl {ks : List Bool} {ns : List (List UInt8)} {fs : FS} (hp : ns.Perm (nms fs)) (hnd : (nms fs).Nodup) {l : List UInt8} {t : List UInt8 × List (List Nat) × Nat} (h : lk fs l = some t) :
    ∃ i, lk (stl ks ns fs).1 l = some (l, zf ks i t.2.2 t.2.1.length t.2.1, t.2.1.length) := by
  have hn : ns.Nodup := hp.nodup_iff.2 hnd
  have hm : l ∈ ns := hp.mem_iff.2 ((lk_isSome fs l).1 (by rw [h]; rfl))
  rcases lk_stl_aux ks ns hn (fs, 0) l t h with ⟨_, h2⟩ | ⟨_, h2⟩
  · exact absurd hm h2
  · exact h2
theorem DA.nodup {w : World} {B p m : Nat} {x : AD} (h : DA w B p m x) : (nms x.fs).Nodup := by
  obtain ⟨es, u, hD, hab, _⟩ := h
  unfold nms
  rw [← hab, ← names_ab]
  exact List.pairwise_map.2 (hD.ap.imp (fun h => h.1))
theorem oper_idle {R n : Nat} {fs : FS} {o : POp} (h1 : isNm o.a = true) (hb : o.k = 3 → isNm o.b = true) (hf : (lk fs o.a).isSome = true) : oper ⟨R, n, 0, true, none, fs⟩ o = (0, ⟨R, n + 1, 0, true, none, doOp o fs⟩) := by
  rw [oper_on h1 hb hf rfl]
  rfl
theorem apnd_idle {R n : Nat} {fs : FS} {l : List UInt8} {bs : List Nat} (h1 : isNm l = true) (hf : fitA R fs l (cnt bs.length) = true) : apnd ⟨R, n, 0, true, none, fs⟩ l bs = (0, ⟨R, n + 1, 0, true, none, apd fs l (parts bs)⟩) := by
  rw [apnd_ok h1 hf rfl]
  rfl
theorem apnd_last {R n : Nat} {fs : FS} {l : List UInt8} {bs : List Nat} (h1 : isNm l = true) (hf : fitA R fs l (cnt bs.length) = true) : apnd ⟨R, n, 1, true, none, fs⟩ l bs = (18, ⟨R, n + 1, 0, false, none, apd fs l (parts bs)⟩) := by
  rw [apnd_ok h1 hf rfl]
  rfl
theorem bl_nil (w : World) : Bl w (.slice none 0 0) [] ∧ Safe w (.slice none 0 0) := ⟨⟨none, 0, rfl, Nat.le_refl _, by omega, fun h => (by cases h)⟩, fun b off n c e => (by cases e)⟩
end Go.Proofs.Ytakgkpiicigihaa
/- disk XXXIII: rows of truth values; fate. -/
namespace Go.Proofs.Ytakgkpiicigihaa
open Go.RowKit Go.Maps Go.Sort Go.Shelf pk
set_option linter.unusedVariables false
set_option linter.unusedSimpArgs false

theorem infoB : (Try.prog.info? 4).map (fun i => (i.zero.map (fun z => z.cells.size), i.size, i.bytes)) = some (some 1, 1, 1) := by kernel_rfl
def KB : Kd Bool where
  T := 4
  S := 32
  k := 1
  bt := 1
  enc := fun b => [.bool b]
  info := by
    obtain ⟨i, hi, hz⟩ := Option.map_eq_some_iff.1 infoB
    simp only [Prod.mk.injEq] at hz
    obtain ⟨z, hz0, hz1⟩ := Option.map_eq_some_iff.1 hz.1
    exact ⟨i, z, hi, hz0, hz.2.1, hz.2.2, hz1⟩
  und := Try.underlying32
  pos := by decide
  len := fun _ => rfl
  one := fun x v h => by simp at h; rw [h]; rfl
theorem Bl.sl {w : World} {v : Value} {ks : List Bool} (h : Bl w v ks) : Sl KB w v ks := by
  obtain ⟨a, c, rfl, h1, h2, h3⟩ := h
  refine ⟨a, c, rfl, h1, h2, fun h0 => ?_⟩
  obtain ⟨b, off, rfl, hx⟩ := h3 h0
  refine ⟨b, off, rfl, World.block_lt_of_cell? w _ (hx 0 h0), fun i y hy j u hu => ?_⟩
  have hi : i < ks.length := (List.getElem?_eq_some_iff.1 hy).1
  have hj : j = 0 := by
    have := (List.getElem?_eq_some_iff.1 hu).1
    have e : (KB.enc y).length = 1 := rfl
    omega
  subst hj
  have hu' : u = .bool y := by
    have : (KB.enc y)[0]? = some (.bool y) := rfl
    rw [this] at hu
    cases hu
    rfl
  rw [hu', show i * KB.k = i from Nat.mul_one i, Nat.add_zero, hx i hi]
  simp [List.getD, hy]
theorem Own.bl {w : World} {B : Nat} {v : Value} {ks : List Bool} (h : Own KB w B v ks) : Bl w v ks ∧ Safe w v := by
  obtain ⟨a, c, rfl, h1, h2⟩ := h.form
  refine ⟨⟨a, c, rfl, h1, h2, fun h0 => ?_⟩, fun b off n cc e => ?_⟩
  · have hs := h.sl
    obtain ⟨x0, hx0⟩ : ∃ x0, ks[0]? = some x0 := ⟨_, List.getElem?_eq_getElem h0⟩
    obtain ⟨b, off, rfl, hb, _⟩ := hs.at 0 x0 hx0
    refine ⟨b, off, rfl, fun i hi => ?_⟩
    obtain ⟨b', off', e, _, hc⟩ := hs.at i ks[i] (List.getElem?_eq_getElem hi)
    cases e
    have := hc 0 (.bool ks[i]) rfl
    rw [show i * KB.k = i from Nat.mul_one i, Nat.add_zero] at this
    rw [this]
    simp [List.getD, hi]
  · rcases h.own.2 with ⟨e2, _⟩ | ⟨q, cap, cur, e2, _, hq, _⟩
    · rw [e2] at e; cases e
    · rw [e2] at e
      cases e
      exact ⟨_, _, _, hq, by unfold Dt; decide⟩
theorem Sl.bl {w : World} {v : Value} {ks : List Bool} (h : Sl KB w v ks) : Bl w v ks := by
  obtain ⟨a, c, rfl, h1, h2, h3⟩ := h
  refine ⟨a, c, rfl, h1, h2, fun h0 => ?_⟩
  obtain ⟨b, off, rfl, hb, hc⟩ := h3 h0
  refine ⟨b, off, rfl, fun i hi => ?_⟩
  have := hc i ks[i] (List.getElem?_eq_getElem hi) 0 (.bool ks[i]) rfl
  rw [show i * KB.k = i from Nat.mul_one i, Nat.add_zero] at this
  rw [this]
  simp [List.getD, hi]
/-- append(l, m...) in a drawn region -/
theorem appSd {α : Type} {K : Kd α} {w : World} {y : Nat → Option Bool} {o : Oper} {a : Act} {Q : Exit → Act → World → Prop} {KK : Act → World → Prop} {k0 : Prop} (hgd : Region.wanted o y = true) (d0 : Option Tmp) (hd0 : o.dst = d0) (s x : Operand)
    (ho : o.op = .call { callee := .builtin .append, args := #[s, x], argTypes := #[K.S, K.S] })
    (B : Nat) (xs ys : List α) (v u : Value) (hs : a.eval s = v) (hx : a.eval x = u)
    (hown : Own K w B v xs) (hu : Sl K w u ys) (hno : ∀ n c, u = .slice none n c → c = 0) (hB : B ≤ w.heap.size) (hl : (xs.length + ys.length) * K.bt ≤ 140737488355328) (hl2 : xs.length + ys.length ≤ 140737488355328)
    (h : ∀ v' w', Own K w' B v' (xs ++ ys) → Below B w w' → w.grownBy w' v.ownBlock → KK (a.put d0 v') w') :
    if Region.wanted o y then o.wp Try.prog a w KK Q else k0 := by
  subst hd0
  obtain ⟨ad, c, rfl, h1, h2, h4⟩ := hu
  by_cases h0 : ys = []
  · subst h0
    cases ad with
    | none =>
      obtain rfl : c = 0 := hno _ _ rfl
      obtain ⟨i0, z, hi, hz0, hz1, hz2, hz3⟩ := K.info
      rw [if_pos hgd]
      have hrun := run_append_owned_none (P := Try.prog) (w := w) B K.S o.type K.T i0 K.k K.und hi v xs.length (K.cells xs) hown.own
      have hx' : a.eval x = .slice none 0 0 := hx
      unfold Oper.wp
      simp [execOp, ho, resolve, invoke, builtin, hs, hx', hrun, Result.andThen]
      exact h v w (by simpa using hown) (Below.refl _ _) (World.grownBy.refl _ _)
    | some ad =>
      exact appK hgd s x ho B xs [] v ad c hs hx hown (fun j u hj => by simp [Kd.cells] at hj) hB hl hl2 (fun v' w' p q r => h v' w' p q r)
  · have hp : 0 < ys.length := List.length_pos_iff.2 h0
    obtain ⟨b, off, rfl, hb, hcell⟩ := h4 hp
    refine appK hgd s x ho B xs ys v ⟨b, off, none⟩ c hs hx hown (fun p u hp => ?_) hB hl hl2 (fun v' w' p q r => h v' w' p q r)
    obtain ⟨i, j, y, rfl, hj, hy, hu⟩ := K.cells_inv ys p u hp
    rw [Go.WideShapes.add_plain, ← Nat.add_assoc]
    exact hcell i y hy j u hu
/-- all of a struct is stored, in a drawn region -/
theorem stAw {w : World} {y : Nat → Option Bool} {o : Oper} {a : Act} {Q : Exit → Act → World → Prop} {K : Act → World → Prop} {k0 : Prop} (hgd : Region.wanted o y = true) (t : TypeId) (x z : Operand) (ho : o.op = .store t x z)
    (p : Nat) (hx : a.eval x = .pointer (some ⟨p, 0, none⟩)) (cs ds : List Value) (hy : a.eval z = .agg ds.toArray) (T : TypeId) (h : VA w p cs T) (hi : (Try.prog.info? t).map (·.size) = some ds.length) (hl : cs.length = ds.length) (h1 : ∀ v ∈ ds, v.oneCell' = true)
    (k : ∀ w', VA w' p ds T → Upd p w w' → K (a.put o.dst undef) w') : if Region.wanted o y = true then o.wp Try.prog a w K Q else k0 := by
  rw [if_pos hgd]
  have hrun := run_storeVar_row (P := Try.prog) w p T t cs.toArray ds.toArray h.blk (by simpa using hi) (by simpa using hl) (Array.all_eq_true_iff_forall_mem.2 (fun v hv => h1 v (by simpa using hv)))
  unfold Oper.wp execOp
  simp only [ho, hx, hy, Instr.storeAt, Instr.sureAddr, Sem.run_bind, Sem.run_pure, Result.andThen_ok, hrun]
  exact k _ ⟨setRow_heap w p _ _ _ _ h.blk⟩ (upd_setRow w p _)
theorem stAn {w : World} {y : Nat → Option Bool} {o : Oper} {a : Act} {Q : Exit → Act → World → Prop} {K : Act → World → Prop} {k0 : Prop} (hgd : Region.wanted o y = true) (hd : o.dst = none) (t : TypeId) (x z : Operand) (ho : o.op = .store t x z)
    (p : Nat) (hx : a.eval x = .pointer (some ⟨p, 0, none⟩)) (cs ds : List Value) (hy : a.eval z = .agg ds.toArray) (T : TypeId) (h : VA w p cs T) (hi : (Try.prog.info? t).map (·.size) = some ds.length) (hl : cs.length = ds.length) (h1 : ∀ v ∈ ds, v.oneCell' = true)
    (k : ∀ w', VA w' p ds T → Upd p w w' → K a w') : if Region.wanted o y = true then o.wp Try.prog a w K Q else k0 := by
  refine stAw hgd t x z ho p hx cs ds hy T h hi hl h1 (fun w' v u => ?_)
  rw [hd]
  exact k w' v u
set_option maxRecDepth 100000 in
theorem fate_ok (w : World) (dn : Bool) (kv : Value) (ks : List Bool) (hk : Bl w kv ks) (hkl : ks.length ≤ 140737488355328) (hno : ∀ n c, kv = .slice none n c → c = 0) :
    Calls Try.prog 20 #[.agg #[.bool dn, kv]] w fun e w' => (∃ u, e = .returned (.agg #[.bool dn, u]) ∧ Bl w' u ks ∧ Safe w' u) ∧ Below w.heap.size w w' := by
  obtain ⟨ka, kc, hkv, _⟩ := hk.form
  have B1 := (Below.refl w.heap.size w).alloc (Nat.le_refl _) (.cells #[.bool dn, kv] 34)
  have V1 := va_new w [.bool dn, kv] 34
  have B2 := B1.alloc (by simp) (.cells #[.bool false, .slice none 0 0] 47)
  have V1' := V1.alloc (.cells #[.bool false, .slice none 0 0] 47)
  have V2 := va_new (w.alloc (.cells #[.bool dn, kv] 34)) [.bool false, .slice none 0 0] 47
  have HSL := (show Hid _ from hk.sl.step B2)
  have HNO : Hid (∀ n c, kv = .slice none n c → c = 0) := hno
  simp only [World.size_alloc] at V2
  clear hk V1 B1 hno
  subst hkv
  go_enter Try.func20, Try.ntmps20
  go_wp2_with fail
  generalize hW : (w.alloc (.cells #[.bool dn, .slice ka ks.length kc] 34)).alloc (.cells #[.bool false, .slice none 0 0] 47) = W at *
  have hsz : W.heap.size = w.heap.size + 2 := by rw [← hW]; simp
  clear hW
  refine wp_region_noPanic ?_
  refine wp_region_held_drew (S := fun V => VA V w.heap.size [.bool dn, .slice ka ks.length kc] 34) (by kernel_rfl) V1'.drew ?_
  intro hHeld
  have b0 : Below W.heap.size W W.drew := (Below.refl _ _).drew
  generalize W.drew = W0 at *
  refine takeD 0 3 (.pointer (some ⟨w.heap.size, 0, none⟩)) (by exact rfl) rfl (by kernel_rfl) (by kernel_rfl) (by kernel_rfl) (fun _ _ _ h => h) (Or.inl ⟨by rfl, ?_⟩) (by assumption) ?_
  · intro wq hS
    go_simp
  try simp only [Act.put, List.setIfInBounds_toArray, List.set_cons_zero, List.set_cons_succ]
  refine takeD 1 4 (.bool dn) (by exact rfl) rfl (by kernel_rfl) (by kernel_rfl) (by kernel_rfl) (fun _ _ _ h => h) (Or.inl ⟨by rfl, ?_⟩) (by assumption) ?_
  · intro wq hS
    have c := hS.cell 0 rfl
    go_simp
  try simp only [Act.put, List.setIfInBounds_toArray, List.set_cons_zero, List.set_cons_succ]
  refine takeD 3 6 (.pointer (some ⟨w.heap.size, 1, none⟩)) (by exact rfl) rfl (by kernel_rfl) (by kernel_rfl) (by kernel_rfl) (fun _ _ _ h => h) (Or.inl ⟨by rfl, ?_⟩) (by assumption) ?_
  · intro wq hS
    go_simp
  try simp only [Act.put, List.setIfInBounds_toArray, List.set_cons_zero, List.set_cons_succ]
  refine takeD 4 7 (.slice ka ks.length kc) (by exact rfl) rfl (by kernel_rfl) (by kernel_rfl) (by kernel_rfl) (fun _ _ _ h => h) (Or.inl ⟨by rfl, ?_⟩) (by assumption) ?_
  · intro wq hS
    have c := hS.cell 1 (v := .slice ka ks.length kc) rfl
    go_simp
  try simp only [Act.put, List.setIfInBounds_toArray, List.set_cons_zero, List.set_cons_succ]
  refine wpAnyH_ready (rs := [2]) (by kernel_rfl) (by simp) ?_
  refine AllReadyH.cons (by exact rfl) (fun K hK => ?_) AllReadyH.nil
  go_simp
  have b1 := (Below.refl W0.heap.size W0).alloc (Nat.le_refl _) (.cells #[] 4)
  have HO1 : Hid (Own KB (W0.alloc (.cells #[] 4)) W0.heap.size (.slice (some ⟨W0.heap.size, 0, none⟩) 0 0) []) := own_made KB W0
  have HS1 : Hid (Sl KB (W0.alloc (.cells #[] 4)) (.slice ka ks.length kc) ks) := (HSL.out.step b0).step b1
  refine hK.out _ _ (hHeld.step b1) (fun hHeld1 => ?_)
  clear hK K
  try simp only [Act.put, List.setIfInBounds_toArray, List.set_cons_zero, List.set_cons_succ]
  refine wpAnyH_ready (rs := [5]) (by kernel_rfl) (by simp) ?_
  refine AllReadyH.cons (by exact rfl) (fun K hK => ?_) AllReadyH.nil
  refine appSd (K := KB) (by rfl) (some 8) rfl _ _ rfl W0.heap.size [] ks _ _ (by rfl) (by rfl) HO1.out HS1.out HNO.out (by simp) (by show (0 + ks.length) * 1 ≤ _; omega) (by show 0 + ks.length ≤ _; omega) ?_
  intro v5 w5 o5 b5 g5
  have hw0 : w.heap.size + 2 ≤ W0.heap.size := by have := b0.size; omega
  have b15 : Below W0.heap.size W0 w5 := b1.trans b5
  have V25 : VA w5 (w.heap.size + 1) [.bool false, .slice none 0 0] 47 := (V2.step b0).step b15
  refine hK.out _ _ (hHeld.step b15) (fun hHeld5 => ?_)
  clear hK K
  rw [List.nil_append] at o5
  obtain ⟨a5, c5, hv5, _⟩ := o5.form
  subst hv5
  try simp only [Act.put, List.setIfInBounds_toArray, List.set_cons_zero, List.set_cons_succ]
  refine takeD 6 9 (.agg #[.bool dn, .slice a5 ks.length c5]) (by exact rfl) rfl (by kernel_rfl) (by kernel_rfl) (by kernel_rfl) (fun _ _ _ h => h) (Or.inl ⟨by rfl, ?_⟩) (by assumption) ?_
  · intro wq hS
    go_simp
  try simp only [Act.put, List.setIfInBounds_toArray, List.set_cons_zero, List.set_cons_succ]
  refine wpAnyH_ready (rs := [7]) (by kernel_rfl) (by simp) ?_
  refine AllReadyH.cons (by exact rfl) (fun K hK => ?_) AllReadyH.nil
  refine stAn (by rfl) rfl 47 _ _ rfl (w.heap.size + 1) (by rfl) [.bool false, .slice none 0 0] [.bool dn, .slice a5 ks.length c5] (by rfl) 47 V25 (by kernel_rfl) rfl (fun v hv => by simp at hv; rcases hv with rfl | rfl <;> rfl) ?_
  intro w7 v7 u7
  refine hK.out _ _ ⟨(u7.block _ (by omega)).trans hHeld5.blk⟩ (fun hHeld7 => ?_)
  clear hK K
  refine wpAnyH_done (by kernel_rfl) ?_ _
  refine NoPanic.normal ?_
  have hbl := o5.bl
  have hk7 : Own KB w7 W0.heap.size (.slice a5 ks.length c5) ks := o5.blk (fun g hg => u7.block g (by have := o5.block g hg; omega))
  have HFIN : Hid (Bl w7 (.slice a5 ks.length c5) ks ∧ Safe w7 (.slice a5 ks.length c5)) := hk7.bl
  have HB7 : Hid (Below w.heap.size w w7) := u7.bel (B2.trans ((b0.trans (b15.mono b0.size)).mono (by omega))) (by omega)
  have hld := run_loadVar_row (P := Try.prog) w7 (w.heap.size + 1) 47 47 _ (0, 0) _ v7.blk Try.underlying47 rfl (by kernel_rfl)
  clear hHeld hHeld1 hHeld5 hHeld7 o5 b5 g5 b15 V25 hbl hk7 b1 b0 B2 V1' V2 u7
  go_wp2_with fail
  refine bodyPost_ret (v := .agg #[.bool dn, .slice a5 ks.length c5]) (by simp [results, Try.results20, asAddr, hld]) rfl ?_
  exact ⟨⟨_, rfl, HFIN.out⟩, HB7.out⟩
end Go.Proofs.Ytakgkpiicigihaa
/- disk XXXV: what comes in: fates, scripts of calls, opened. -/
namespace Go.Proofs.Ytakgkpiicigihaa
open Go.ChangeShapes Go.WideShapes Go.ChangeAt Go.RowKit pk
set_option linter.unusedVariables false

theorem came_bools {H : Type} {enc : TypeId × Value → H} {W : World} {fuel : Nat} {cs : List Value} {x : DataW H × List MemPlace} (h : DataW.trod enc Try.prog W 0 (fun _ => true) true fuel 32 cs = some x) :
    ∃ a ks c, cs = [.slice a ks.length c] ∧ Bl W (.slice a ks.length c) ks ∧ (a = none → c = 0) ∧ ∀ R : Nat, (∀ n ∈ DataW.weights Try.prog 32 x.1, n ≤ R) → ks.length ≤ R := by
  obtain ⟨v, ks, hcs, hs, hno, hw⟩ := came_rows KB (by kernel_rfl) (fun _ _ => True) (fun fuel cs x h => by
    obtain ⟨b, e, _⟩ := DataW.trod_bool Try.underlying4 h
    exact ⟨b, e, trivial⟩) h
  have hbl := hs.bl
  obtain ⟨a, c, rfl, _⟩ := hs
  refine ⟨a, ks, c, hcs, hbl, fun e => hno _ _ (by rw [e]), fun R hR => ?_⟩
  rcases hw with ⟨_, rfl⟩ | ⟨el, sp, h1, h2, _⟩
  · simp
  · rw [h1] at hR
    have h4 := (w_slice Try.underlying32 hR).1
    rw [show Try.prog.bytesOf 4 = 1 by kernel_rfl] at h4
    omega

set_option maxRecDepth 100000 in
theorem came_fate {H : Type} {enc : TypeId × Value → H} {W : World} {fuel : Nat} {cs : List Value} {x : DataW H × List MemPlace} (h : DataW.trod enc Try.prog W 0 (fun _ => true) true fuel 34 cs = some x) :
    ∃ dn a ks c, cs = [.bool dn, .slice a ks.length c] ∧ Bl W (.slice a ks.length c) ks ∧ (a = none → c = 0) ∧ ∀ R : Nat, (∀ n ∈ DataW.weights Try.prog 34 x.1, n ≤ R) → ks.length ≤ R := by
  obtain ⟨xs, n, _, hx, hl, hlen, hf⟩ := DataW.trod_struct Try.underlying34 h
  rw [show Try.prog.cellsOf 34 = 2 by kernel_rfl] at hl
  match cs, hl with
  | [c0, c1], _ =>
    match xs, hlen with
    | [y0, y1], _ =>
      have h0 : DataW.trod enc Try.prog W 0 (fun _ => true) true n 4 (([c0, c1].drop 0).take (Try.prog.cellsOf 4)) = some y0 := hf 0 _ rfl
      have h1 : DataW.trod enc Try.prog W 0 (fun _ => true) true n 32 (([c0, c1].drop 1).take (Try.prog.cellsOf 32)) = some y1 := hf 1 _ rfl
      rw [show Try.prog.cellsOf 4 = 1 by kernel_rfl] at h0
      rw [show Try.prog.cellsOf 32 = 1 by kernel_rfl] at h1
      obtain ⟨b, e0, _⟩ := DataW.trod_bool Try.underlying4 h0
      obtain ⟨a, ks, c, e1, hb, hno, hw⟩ := came_bools h1
      simp at e0 e1
      refine ⟨b, a, ks, c, by rw [e0, e1], hb, hno, fun R hR => hw R (fun m hm => hR m ?_)⟩
      rw [hx]
      simp [DataW.weights, Try.underlying34, DataW.weightsEach, hm]
/-- a call of a script -/
structure OpD where
  k : Nat
  a : ByteArray
  b : ByteArray
  pa : Option Addr
  pc : Nat
  bs : List Nat
  n : Int
  dn : Bool
  ka : Option Addr
  kc : Nat
  ks : List Bool
def OpD.cells (o : OpD) : List Value := [.int .u8 (o.k : Int), .string o.a, .string o.b, .slice o.pa o.bs.length o.pc, .int .i64 o.n, .bool o.dn, .slice o.ka o.ks.length o.kc]
theorem infoO : (Try.prog.info? 36).map (fun i => (i.zero.map (fun z => z.cells.size), i.size, i.bytes)) = some (some 7, 7, 104) := by kernel_rfl
def KO : Kd OpD where
  T := 36
  S := 22
  k := 7
  bt := 104
  enc := OpD.cells
  info := by
    obtain ⟨i, hi, hz⟩ := Option.map_eq_some_iff.1 infoO
    simp only [Prod.mk.injEq] at hz
    obtain ⟨z, hz0, hz1⟩ := Option.map_eq_some_iff.1 hz.1
    exact ⟨i, z, hi, hz0, hz.2.1, hz.2.2, hz1⟩
  und := Try.underlying22
  pos := by decide
  len := fun _ => rfl
  one := fun x v h => by simp [OpD.cells] at h; rcases h with rfl | rfl | rfl | rfl | rfl | rfl | rfl <;> rfl
structure OpIn (W : World) (o : OpD) : Prop where
  k : o.k < 256
  p : Bs W (.slice o.pa o.bs.length o.pc) o.bs
  f : Bl W (.slice o.ka o.ks.length o.kc) o.ks
  no : o.ka = none → o.kc = 0
  n : -9223372036854775808 ≤ o.n ∧ o.n ≤ 9223372036854775807
def OpSz (R : Nat) (o : OpD) : Prop := o.bs.length ≤ R ∧ o.ks.length ≤ R ∧ o.a.size ≤ R ∧ o.b.size ≤ R
set_option maxRecDepth 100000 in
theorem came_op {H : Type} {enc : TypeId × Value → H} {W : World} {fuel : Nat} {cs : List Value} {x : DataW H × List MemPlace} (h : DataW.trod enc Try.prog W 0 (fun _ => true) true fuel 36 cs = some x) :
    ∃ o : OpD, cs = o.cells ∧ OpIn W o ∧ ∀ R : Nat, (∀ n ∈ DataW.weights Try.prog 36 x.1, n ≤ R) → OpSz R o := by
  obtain ⟨xs, n, _, hx, hl, hlen, hf⟩ := DataW.trod_struct Try.underlying36 h
  rw [show Try.prog.cellsOf 36 = 7 by kernel_rfl] at hl
  match cs, hl with
  | [c0, c1, c2, c3, c4, c5, c6], _ =>
    match xs, hlen with
    | [y0, y1, y2, y3, y4, y5], _ =>
      have h0 : DataW.trod enc Try.prog W 0 (fun _ => true) true n 5 (([c0, c1, c2, c3, c4, c5, c6].drop 0).take (Try.prog.cellsOf 5)) = some y0 := hf 0 _ rfl
      have h1 : DataW.trod enc Try.prog W 0 (fun _ => true) true n 9 (([c0, c1, c2, c3, c4, c5, c6].drop 1).take (Try.prog.cellsOf 9)) = some y1 := hf 1 _ rfl
      have h2 : DataW.trod enc Try.prog W 0 (fun _ => true) true n 9 (([c0, c1, c2, c3, c4, c5, c6].drop 2).take (Try.prog.cellsOf 9)) = some y2 := hf 2 _ rfl
      have h3 : DataW.trod enc Try.prog W 0 (fun _ => true) true n 31 (([c0, c1, c2, c3, c4, c5, c6].drop 3).take (Try.prog.cellsOf 31)) = some y3 := hf 3 _ rfl
      have h4 : DataW.trod enc Try.prog W 0 (fun _ => true) true n 3 (([c0, c1, c2, c3, c4, c5, c6].drop 4).take (Try.prog.cellsOf 3)) = some y4 := hf 4 _ rfl
      have h5 : DataW.trod enc Try.prog W 0 (fun _ => true) true n 34 (([c0, c1, c2, c3, c4, c5, c6].drop 5).take (Try.prog.cellsOf 34)) = some y5 := hf 5 _ rfl
      rw [show Try.prog.cellsOf 5 = 1 by kernel_rfl] at h0
      rw [show Try.prog.cellsOf 9 = 1 by kernel_rfl] at h1 h2
      rw [show Try.prog.cellsOf 31 = 1 by kernel_rfl] at h3
      rw [show Try.prog.cellsOf 3 = 1 by kernel_rfl] at h4
      rw [show Try.prog.cellsOf 34 = 2 by kernel_rfl] at h5
      obtain ⟨k, e0, _, w0⟩ := DataW.trod_int Try.underlying5 h0
      obtain ⟨sa, e1, x1, _⟩ := DataW.trod_string Try.underlying9 h1
      obtain ⟨sb, e2, x2, _⟩ := DataW.trod_string Try.underlying9 h2
      obtain ⟨v3, bs, e3, hb3, hw3⟩ := came_bytes h3
      obtain ⟨m, e4, _, w4⟩ := DataW.trod_int Try.underlying3 h4
      obtain ⟨dn, ka, ks, kc, e5, hb5, hn5, hw5⟩ := came_fate h5
      simp at e0 e1 e2 e3 e4 e5
      have hb0 : 0 ≤ k ∧ k ≤ 255 := by simpa [Lit.wf, IntKind.min, IntKind.max, IntKind.signed, IntKind.bits] using w0
      have hb4 : -9223372036854775808 ≤ m ∧ m ≤ 9223372036854775807 := by simpa [Lit.wf, IntKind.min, IntKind.max, IntKind.signed, IntKind.bits] using w4
      have hBs := hb3
      obtain ⟨_, pa, pc, hv3, _⟩ := hb3
      refine ⟨⟨k.toNat, sa, sb, pa, pc, bs, m, dn, ka, kc, ks⟩, ?_, ⟨by show k.toNat < 256; omega, by rw [hv3] at hBs; exact hBs, hb5, hn5, hb4⟩, fun R hR => ?_⟩
      · rw [e0, e1, e2, e3, hv3, e4, e5.1, e5.2]
        show _ = [Value.int .u8 ((k.toNat : Nat) : Int), _, _, _, _, _, _]
        rw [show ((k.toNat : Nat) : Int) = k by omega]
      · rw [hx] at hR
        have hW : DataW.weights Try.prog 36 (DataW.agg ([y0, y1, y2, y3, y4, y5].map (·.1))) = DataW.weights Try.prog 5 y0.1 ++ (DataW.weights Try.prog 9 y1.1 ++ (DataW.weights Try.prog 9 y2.1 ++ (DataW.weights Try.prog 31 y3.1 ++ (DataW.weights Try.prog 3 y4.1 ++ (DataW.weights Try.prog 34 y5.1 ++ []))))) := by
          conv => lhs; unfold DataW.weights
          rw [Try.underlying36]
          rfl
        rw [hW] at hR
        refine ⟨hw3 R (fun q hq => hR q (by simp [hq])), hw5 R (fun q hq => hR q (by simp [hq])), ?_, ?_⟩
        · have := hR sa.data.toList.length (by rw [x1]; simp [DataW.weights])
          show sa.size ≤ R
          have e : sa.data.toList.length = sa.size := by cases sa; rfl
          omega
        · have := hR sb.data.toList.length (by rw [x2]; simp [DataW.weights])
          show sb.size ≤ R
          have e : sb.data.toList.length = sb.size := by cases sb; rfl
          omega
theorem came_ops {H : Type} {enc : TypeId × Value → H} {W : World} {fuel : Nat} {a : Option Addr} {len cap R : Nat} {d : DataW H} {p : List MemPlace} (h : DataW.trod enc Try.prog W 0 (fun _ => true) true fuel 22 (Value.slice a len cap).cells.toList = some (d, p))
    (hR : ∀ n ∈ DataW.weights Try.prog 22 d, n ≤ R) : ∃ os, Sl KO W (.slice a len cap) os ∧ (∀ o ∈ os, OpIn W o ∧ OpSz R o) ∧ os.length ≤ R := by
  haveI : Inhabited OpD := ⟨⟨0, ByteArray.empty, ByteArray.empty, none, 0, [], 0, false, none, 0, []⟩⟩
  obtain ⟨v, os, hcs, hs, hno, hw⟩ := came_rows KO (by kernel_rfl) (fun o d => OpIn W o ∧ ∀ R : Nat, (∀ n ∈ DataW.weights Try.prog 36 d, n ≤ R) → OpSz R o) (fun fuel cs x h => came_op h) h
  obtain rfl : v = .slice a len cap := by simpa [Value.cells] using hcs.symm
  rcases hw with ⟨_, rfl⟩ | ⟨el, sp, h1, h2, h3⟩
  · exact ⟨[], hs, fun o ho => (by cases ho), by simp⟩
  · have h1' : d = .slice el sp := h1
    rw [h1'] at hR
    obtain ⟨h4, h5⟩ := w_slice Try.underlying22 hR
    refine ⟨os, hs, fun o ho => ?_, ?_⟩
    · obtain ⟨i, hi⟩ := List.getElem?_of_mem ho
      obtain ⟨dd, hd, hp⟩ := h3 i o hi
      exact ⟨hp.1, hp.2 R (h5 i dd hd)⟩
    · rw [show Try.prog.bytesOf 36 = 104 by kernel_rfl] at h4
      omega
end Go.Proofs.Ytakgkpiicigihaa
