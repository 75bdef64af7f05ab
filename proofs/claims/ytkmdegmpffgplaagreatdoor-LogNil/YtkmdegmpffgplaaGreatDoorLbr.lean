/- log XIX: the last segment's number matters to nobody's links. -/
import Derived.Test.YtkmdegmpffgplaaGreatDoorLbq
namespace Go.Proofs.YtkmdegmpffgplaaGreatDoor
open Go.RowKit Go.Maps Go.Sort Go.Shelf pk
set_option linter.unusedVariables false
def LG.hi (g : LG) (h : Nat) : LG := { g with high := h }
theorem fol_hi (g : LG) (h : Nat) (r : Rc) : (g.hi h).fol r = (g.fol r).hi h := rfl
theorem ahd_hi (g : LG) (h : Nat) : (g.hi h).ahd = g.ahd := rfl
theorem empty_hi (g : LG) (h : Nat) : (g.hi h).empty = g.empty := rfl
theorem adv_hi (g : LG) (h : Nat) (rs : List Rc) : adv (g.hi h) rs = (adv g rs).hi h := by
  induction rs generalizing g with
  | nil => rfl
  | cons a rs ih => exact ih (g.fol a)
theorem lkd_hi (g : LG) (h : Nat) (rs : List Rc) : Lkd (g.hi h) rs ↔ Lkd g rs := by
  induction rs generalizing g with
  | nil => exact Iff.rfl
  | cons a rs ih =>
    show (_ ∧ Lkd ((g.fol a).hi h) rs) ↔ (_ ∧ Lkd (g.fol a) rs)
    rw [ih (g.fol a)]
    exact Iff.rfl
end Go.Proofs.YtkmdegmpffgplaaGreatDoor
/- log XXI: the files of a log, in plain words. -/
namespace Go.Proofs.YtkmdegmpffgplaaGreatDoor
open Go.RowKit Go.Maps Go.Sort Go.Shelf pk
set_option linter.unusedVariables false
set_option linter.unusedSimpArgs false
theorem lt_app : ∀ (a b s t : List UInt8), a.length = b.length → a < b → a ++ s < b ++ t
  | [], [], s, t, _, h => absurd h (List.lt_irrefl _)
  | [], y :: b, s, t, h, _ => by simp at h
  | x :: a, [], s, t, h, _ => by simp at h
  | x :: a, y :: b, s, t, h, hl => by
    rw [List.cons_append, List.cons_append, List.cons_lt_cons_iff]
    rcases List.cons_lt_cons_iff.1 hl with h1 | ⟨h1, h2⟩
    · exact Or.inl h1
    · exact Or.inr ⟨h1, lt_app a b s t (by simpa using h) h2⟩
theorem lt_app2 : ∀ (a s t : List UInt8), s < t → a ++ s < a ++ t
  | [], s, t, h => h
  | x :: a, s, t, h => by rw [List.cons_append, List.cons_append, List.cons_lt_cons_iff]; exact Or.inr ⟨rfl, lt_app2 a s t h⟩
theorem dgL_lt : ∀ k a b, a < 10 ^ k → b < 10 ^ k → a < b → dgL k a < dgL k b
  | 0, a, b, h1, h2, h => by simp at h1 h2; omega
  | k + 1, a, b, h1, h2, h => by
    unfold dgL
    rw [Nat.pow_succ] at h1 h2
    rcases Nat.lt_or_ge (a / 10) (b / 10) with h3 | h3
    · exact lt_app _ _ _ _ (by rw [dgL_len, dgL_len]) (dgL_lt k _ _ (by omega) (by omega) h3)
    · rw [show a / 10 = b / 10 by omega]
      refine lt_app2 _ _ _ (List.cons_lt_cons_iff.2 (Or.inl ?_))
      rw [UInt8.lt_iff_toNat_lt]
      show (48 + a % 10) % 256 < (48 + b % 10) % 256
      omega
theorem nmS_lt {a b : Nat} (ha : a ≤ 99999999) (hb : b ≤ 99999999) (h : a < b) : nmS a < nmS b := by
  unfold nmS
  exact List.cons_lt_cons_iff.2 (Or.inr ⟨rfl, dgL_lt 8 a b (by omega) (by omega) h⟩)
theorem nmS_le {a b : Nat} (ha : a ≤ 99999999) (hb : b ≤ 99999999) (h : nmS a ≤ nmS b) : a ≤ b := by
  rcases Nat.lt_or_ge b a with h1 | h1
  · exact absurd (nmS_lt hb ha h1) h
  · exact h1
theorem nmS_inj {a b : Nat} (ha : a ≤ 99999999) (hb : b ≤ 99999999) (h : nmS a = nmS b) : a = b :=
  Nat.le_antisymm (nmS_le ha hb (by rw [h]; exact List.le_refl _)) (nmS_le hb ha (by rw [h]; exact List.le_refl _))
theorem srt_eq : ∀ (a b : List Nat), a.Pairwise (· < ·) → b.Pairwise (· < ·) → (∀ n, n ∈ a ↔ n ∈ b) → a = b
  | [], [], _, _, _ => rfl
  | [], y :: b, _, _, h => absurd ((h y).2 (List.mem_cons_self ..)) (by simp)
  | x :: a, [], _, _, h => absurd ((h x).1 (List.mem_cons_self ..)) (by simp)
  | x :: a, y :: b, h1, h2, h => by
    rw [List.pairwise_cons] at h1 h2
    have e : x = y := by
      rcases List.mem_cons.1 ((h x).1 (List.mem_cons_self ..)) with e | e
      · exact e
      rcases List.mem_cons.1 ((h y).2 (List.mem_cons_self ..)) with e2 | e2
      · exact e2.symm
      have := h2.1 x e
      have := h1.1 y e2
      omega
    subst e
    rw [srt_eq a b h1.2 h2.2 (fun n => ⟨fun hn => ?_, fun hn => ?_⟩)]
    · rcases List.mem_cons.1 ((h n).1 (List.mem_cons_of_mem _ hn)) with e | e
      · have := h1.1 n hn; omega
      · exact e
    · rcases List.mem_cons.1 ((h n).2 (List.mem_cons_of_mem _ hn)) with e | e
      · have := h2.1 n hn; omega
      · exact e
/-- the records of segment i -/
def sgt (per : Nat) (rs : List Rc) (i : Nat) : List Rc := (rs.drop (i * per)).take per
theorem sgt_len (per : Nat) (rs : List Rc) (i : Nat) : (sgt per rs i).length = min per (rs.length - i * per) := by unfold sgt; rw [List.length_take, List.length_drop]
def nsg (per T : Nat) : Nat := (T + per - 1) / per
theorem nsg_lt {per T i : Nat} (h : 1 ≤ per) : i < nsg per T ↔ i * per < T := by
  unfold nsg
  rw [show (i < (T + per - 1) / per) ↔ (i + 1 ≤ (T + per - 1) / per) from Iff.rfl, Nat.le_div_iff_mul_le (by omega), Nat.add_mul, Nat.one_mul]
  omega
/-- the files of a log -/
structure Fls (fs : FS) (per lo : Nat) (rs : List Rc) : Prop where
  file : ∀ i, i * per < rs.length → ∃ t, lk fs (nmS (lo + i)) = some t ∧ flat t.2.1 = segB ((lo + i) * per + 1) (sgt per rs i)
  only : ∀ k, k ≤ 99999999 → nmS k ∈ nms fs → ∃ i, k = lo + i ∧ i * per < rs.length
  name : ∀ l ∈ nms fs, l = nmO .data ∨ l = nmO .one ∨ ∃ k, k ≤ 99999999 ∧ l = nmS k
theorem nms_rfs (fs : FS) (k : Nat) (bs : List Nat) (l : List UInt8) : l ∈ nms (rfs fs k bs) ↔ l = nmS k ∨ l ∈ nms fs := by
  unfold rfs
  rw [sync_fs, nms_map _ _ (fun t => by split <;> rfl), nms_apd]
  split
  · exact ⟨Or.inr, fun h => h.elim (fun e => by rw [e]; assumption) id⟩
  · rw [List.mem_append, List.mem_singleton]; exact Or.comm
theorem fil_app {fs : FS} {per lo : Nat} {rs : List Rc} (hp : 1 ≤ per) (h : Fls fs per lo rs) (r : Rc) (hb : lo + rs.length / per ≤ 99999999) :
    Fls (rfs fs (lo + rs.length / per) (secL (lo * per + 1 + rs.length) r.1 r.2)) per lo (rs ++ [r]) := by
  obtain ⟨q, hq⟩ : ∃ q, q = rs.length / per := ⟨_, rfl⟩
  rw [← hq] at hb ⊢
  have hd := Nat.div_add_mod rs.length per
  have hm := Nat.mod_lt rs.length (show per > 0 by omega)
  rw [← hq, Nat.mul_comm] at hd
  generalize rs.length % per = m at hd hm
  have hlen : (rs ++ [r]).length = rs.length + 1 := by simp
  refine ⟨fun i hi => ?_, fun k hk hm2 => ?_, fun l hl => ?_⟩
  · rw [hlen] at hi
    rcases Nat.lt_trichotomy i q with hiq | hiq | hiq
    · have h1 : (i + 1) * per ≤ q * per := Nat.mul_le_mul_right _ hiq
      rw [Nat.add_mul, Nat.one_mul] at h1
      obtain ⟨t, h2, h3⟩ := h.file i (by omega)
      refine ⟨t, ?_, ?_⟩
      · rw [lk_rfs_other _ _ _ _ (fun e => by have := nmS_inj (by omega) (by omega) e; omega)]
        exact h2
      · rw [h3]
        unfold sgt
        rw [List.drop_append_of_le_length (by omega), List.take_append_of_le_length (by rw [List.length_drop]; omega)]
    · subst hiq
      have hnum : (lo + i) * per + 1 + m = lo * per + 1 + rs.length := by rw [Nat.add_mul]; omega
      by_cases hm0 : m = 0
      · have hn : lk fs (nmS (lo + i)) = none := by
          rw [lk_none]
          intro hin
          obtain ⟨j, hj, hj2⟩ := h.only _ hb hin
          have : j = i := by omega
          subst this
          omega
        refine ⟨_, lk_rfs_new _ _ _ hn, ?_⟩
        show flat (parts _) = _
        rw [flat_sec]
        have : sgt per (rs ++ [r]) i = [r] := by
          unfold sgt
          rw [show i * per = rs.length by omega, List.drop_left, List.take_of_length_le (by simpa using hp)]
        rw [this]
        show _ = secL _ _ _ ++ []
        rw [List.append_nil, ← hnum, hm0, Nat.add_zero]
      · obtain ⟨t, h2, h3⟩ := h.file i (by omega)
        refine ⟨_, lk_rfs_more _ _ _ t h2, ?_⟩
        show flat (t.2.1 ++ parts _) = _
        rw [flat_app, flat_sec, h3]
        have hs : sgt per (rs ++ [r]) i = sgt per rs i ++ [r] := by
          unfold sgt
          rw [List.drop_append_of_le_length (by omega), List.take_of_length_le (by rw [List.length_append, List.length_drop]; simp; omega), List.take_of_length_le (by rw [List.length_drop]; omega)]
        rw [hs, segB_snoc, sgt_len, show min per (rs.length - i * per) = m by omega, hnum]
    · have h1 : (q + 1) * per ≤ i * per := Nat.mul_le_mul_right _ hiq
      rw [Nat.add_mul, Nat.one_mul] at h1
      omega
  · rw [hlen]
    rcases (nms_rfs _ _ _ _).1 hm2 with e | e
    · exact ⟨q, nmS_inj hk hb e, by omega⟩
    · obtain ⟨i, h1, h2⟩ := h.only k hk e
      exact ⟨i, h1, by omega⟩
  · rcases (nms_rfs _ _ _ _).1 hl with e | e
    · exact Or.inr (Or.inr ⟨_, hb, e⟩)
    · exact h.name l e
/-- the first file goes -/
theorem fil_drop {fs : FS} {per lo : Nat} {rs : List Rc} (hp : 1 ≤ per) (h : Fls fs per lo rs) (hlo : lo ≤ 99999999) (hT : per < rs.length) (hb : lo + rs.length / per ≤ 99999999) :
    Fls (fs.filter (fun t => decide (t.1 ≠ nmS lo))) per (lo + 1) (rs.drop per) := by
  have hn : ∀ l, l ∈ nms (fs.filter (fun t => decide (t.1 ≠ nmS lo))) ↔ l ≠ nmS lo ∧ l ∈ nms fs := by
    intro l
    unfold nms
    rw [List.mem_map, List.mem_map]
    constructor
    · rintro ⟨t, h1, rfl⟩
      rw [List.mem_filter] at h1
      exact ⟨by simpa using h1.2, t, h1.1, rfl⟩
    · rintro ⟨h1, t, h2, rfl⟩
      exact ⟨t, List.mem_filter.2 ⟨h2, by simpa using h1⟩, rfl⟩
  refine ⟨fun i hi => ?_, fun k hk hm2 => ?_, fun l hl => h.name l ((hn l).1 hl).2⟩
  · rw [List.length_drop] at hi
    have h1 : (i + 1) * per = i * per + per := by rw [Nat.add_mul, Nat.one_mul]
    obtain ⟨t, h2, h3⟩ := h.file (i + 1) (by omega)
    have hle : lo + (i + 1) ≤ 99999999 := by
      have : i + 1 ≤ rs.length / per := (Nat.le_div_iff_mul_le (by omega)).2 (by omega)
      omega
    refine ⟨t, ?_, ?_⟩
    · rw [show lo + 1 + i = lo + (i + 1) by omega]
      have hne : nmS (lo + (i + 1)) ≠ nmS lo := fun e => by have := nmS_inj hle hlo e; omega
      rw [← h2]
      unfold lk
      rw [List.find?_filter]
      congr 1
      funext u
      by_cases hu : u.1 = nmS (lo + (i + 1))
      · simp [hu, hne]
      · simp [hu]
    · rw [h3, show lo + 1 + i = lo + (i + 1) by omega]
      unfold sgt
      rw [List.drop_drop, h1, Nat.add_comm per]
  · rw [List.length_drop]
    obtain ⟨h1, h2⟩ := (hn _).1 hm2
    obtain ⟨i, h3, h4⟩ := h.only k hk h2
    rcases i with _ | i
    · exact absurd (by rw [h3, Nat.add_zero]) h1
    · refine ⟨i, by omega, ?_⟩
      rw [Nat.add_mul, Nat.one_mul] at h4
      omega
theorem nk_xs (ns : List (List UInt8)) : (∀ l ∈ ns, l = nmO .data ∨ l = nmO .one ∨ ∃ n, n ≤ 99999999 ∧ l = nmS n) → ∃ xs : List Nk, ns = xs.map nmO ∧ ∀ n, Nk.seg n ∈ xs → n ≤ 99999999 := by
  induction ns with
  | nil => intro _; exact ⟨[], rfl, fun n h => by cases h⟩
  | cons l ns ih =>
    intro h
    obtain ⟨xs, h1, h2⟩ := ih (fun l hl => h l (List.mem_cons_of_mem _ hl))
    rcases h l (List.mem_cons_self ..) with rfl | rfl | ⟨n, hn, rfl⟩
    · exact ⟨.data :: xs, by rw [h1]; rfl, fun n hh => h2 n (by simpa using hh)⟩
    · exact ⟨.one :: xs, by rw [h1]; rfl, fun n hh => h2 n (by simpa using hh)⟩
    · exact ⟨.seg n :: xs, by rw [h1]; rfl, fun k hh => by
        rcases List.mem_cons.1 hh with e | e
        · cases e; exact hn
        · exact h2 k e⟩
theorem nmO_seg {k : Nk} {n : Nat} (h : nmO k = nmS n) (hn : n ≤ 99999999) (hk : ∀ j, k = .seg j → j ≤ 99999999) : k = .seg n := by
  cases k with
  | seg j => rw [nmS_inj (hk j rfl) hn h]
  | data => have := congrArg List.length h; rw [nmS_len] at this; cases this
  | one => have := congrArg List.length h; rw [nmS_len] at this; cases this
/-- the numbers, in their order -/
theorem fil_nums {fs : FS} {per lo : Nat} {rs : List Rc} (hp : 1 ≤ per) (h : Fls fs per lo rs) (hb : lo + nsg per rs.length ≤ 99999999) {ns : List (List UInt8)} {xs : List Nk} (hpm : ns.Perm (nms fs)) (ho : ns.Pairwise (fun a b => a ≤ b)) (hnd : (nms fs).Nodup) (he : ns = xs.map nmO) (hx : ∀ n, Nk.seg n ∈ xs → n ≤ 99999999) :
    xs.filterMap Nk.num = (List.range (nsg per rs.length)).map (lo + ·) := by
  refine srt_eq _ _ ?_ ?_ (fun n => ?_)
  · have hnd2 : ns.Nodup := hpm.nodup_iff.2 hnd
    have h3 : ns.Pairwise (fun a b => a ≤ b ∧ a ≠ b) := ho.and hnd2
    rw [he, List.pairwise_map] at h3
    rw [List.pairwise_filterMap]
    refine List.Pairwise.imp_of_mem (fun {a b} ha hb hab c hc d hd => ?_) h3
    have e1 : a = .seg c := by cases a <;> cases hc; rfl
    have e2 : b = .seg d := by cases b <;> cases hd; rfl
    subst e1 e2
    have := nmS_le (hx c ha) (hx d hb) hab.1
    have hne : c ≠ d := fun e => hab.2 (by rw [e])
    omega
  · rw [List.pairwise_map]
    exact List.Pairwise.imp (fun h => by omega) (List.pairwise_lt_range)
  · rw [List.mem_filterMap, List.mem_map]
    constructor
    · rintro ⟨a, ha, e⟩
      have e1 : a = .seg n := by cases a <;> cases e; rfl
      subst e1
      have hin : nmS n ∈ nms fs := hpm.mem_iff.1 (by rw [he]; exact List.mem_map.2 ⟨_, ha, rfl⟩)
      obtain ⟨i, h1, h2⟩ := h.only n (hx n ha) hin
      exact ⟨i, List.mem_range.2 ((nsg_lt hp).2 h2), h1.symm⟩
    · rintro ⟨i, hi, rfl⟩
      have hi' := List.mem_range.1 hi
      obtain ⟨t, h1, h2⟩ := h.file i ((nsg_lt hp).1 hi')
      have hin : nmS (lo + i) ∈ nms fs := (lk_isSome _ _).1 (by rw [h1]; rfl)
      have := hpm.mem_iff.2 hin
      rw [he] at this
      obtain ⟨a, ha, e⟩ := List.mem_map.1 this
      have := nmO_seg e (by omega) (fun j ej => hx j (by rw [← ej]; exact ha))
      exact ⟨a, ha, by rw [this]; rfl⟩
/-- the log in memory that has these records -/
def gst (per lo : Nat) (rs : List Rc) (l0 : List Nat) : LG := (adv ⟨per, lo, lo, lo * per + 1, l0, false⟩ rs).hi (lo + (rs.length - 1) / per)
theorem gst_app (per lo : Nat) (rs : List Rc) (l0 : List Nat) (r : Rc) (hp : 1 ≤ per) : gst per lo (rs ++ [r]) l0 = { (gst per lo rs l0) with high := sgm (gst per lo rs l0), last := r.2, next := (gst per lo rs l0).next + 1 } := by
  have e := adv_per ⟨per, lo, lo, lo * per + 1, l0, false⟩ rs
  have h1 : sgm (gst per lo rs l0) = lo + rs.length / per := by
    unfold sgm gst LG.hi
    dsimp only
    rw [e.2.2.2.2, e.1]
    dsimp only
    rw [show lo * per + 1 + rs.length - 1 = rs.length + lo * per by omega, Nat.add_mul_div_right _ _ (by omega), Nat.add_comm]
  rw [h1]
  unfold gst
  rw [adv_fol, List.length_append, List.length_singleton, Nat.add_sub_cancel]
  rfl
theorem gst_next (per lo : Nat) (rs : List Rc) (l0 : List Nat) : (gst per lo rs l0).next = lo * per + 1 + rs.length := (adv_per ⟨per, lo, lo, lo * per + 1, l0, false⟩ rs).2.2.2.2
theorem gst_per (per lo : Nat) (rs : List Rc) (l0 : List Nat) : (gst per lo rs l0).per = per := (adv_per ⟨per, lo, lo, lo * per + 1, l0, false⟩ rs).1
theorem gst_low (per lo : Nat) (rs : List Rc) (l0 : List Nat) : (gst per lo rs l0).low = lo := (adv_per ⟨per, lo, lo, lo * per + 1, l0, false⟩ rs).2.1
theorem gst_ended (per lo : Nat) (rs : List Rc) (l0 : List Nat) : (gst per lo rs l0).ended = false := (adv_per ⟨per, lo, lo, lo * per + 1, l0, false⟩ rs).2.2.2.1
theorem gst_sgm (per lo : Nat) (rs : List Rc) (l0 : List Nat) (hp : 1 ≤ per) : sgm (gst per lo rs l0) = lo + rs.length / per := by
  unfold sgm
  rw [gst_next, gst_per, show lo * per + 1 + rs.length - 1 = rs.length + lo * per by omega, Nat.add_mul_div_right _ _ (by omega), Nat.add_comm]
theorem adv_last (g : LG) (rs : List Rc) (h : g.last.length = 32 ∧ By g.last) (hr : ∀ r ∈ rs, Rok r) : (adv g rs).last.length = 32 ∧ By (adv g rs).last := by
  induction rs generalizing g with
  | nil => exact h
  | cons r rs ih => exact ih (g.fol r) ⟨(hr r (List.mem_cons_self ..)).ll, (hr r (List.mem_cons_self ..)).lb⟩ (fun r' h' => hr r' (List.mem_cons_of_mem _ h'))
/-- the last link -/
def lastL : List Nat → List Rc → List Nat
  | l, [] => l
  | _, r :: rs => lastL r.2 rs
theorem adv_eq (g : LG) (rs : List Rc) : adv g rs = ⟨g.per, g.low, g.high, g.next + rs.length, lastL g.last rs, g.ended⟩ := by
  induction rs generalizing g with
  | nil => rfl
  | cons r rs ih =>
    show adv (g.fol r) rs = _
    rw [ih]
    show (⟨g.per, g.low, g.high, g.next + 1 + rs.length, lastL r.2 rs, g.ended⟩ : LG) = ⟨g.per, g.low, g.high, g.next + (rs.length + 1), lastL r.2 rs, g.ended⟩
    rw [show g.next + 1 + rs.length = g.next + (rs.length + 1) by omega]
theorem lastL_app (l : List Nat) (a b : List Rc) : lastL l (a ++ b) = lastL (lastL l a) b := by
  induction a generalizing l with
  | nil => rfl
  | cons r a ih => exact ih r.2
theorem lastL_any (l l' : List Nat) (rs : List Rc) (h : rs ≠ []) : lastL l rs = lastL l' rs := by
  cases rs with
  | nil => exact absurd rfl h
  | cons r rs => rfl
/-- links behind a link -/
def Ch : List Nat → List Rc → Prop
  | _, [] => True
  | l, r :: rs => r.2 = chn l r.1 ∧ Ch r.2 rs
theorem ch_app (l : List Nat) (a b : List Rc) : Ch l (a ++ b) ↔ Ch l a ∧ Ch (lastL l a) b := by
  induction a generalizing l with
  | nil => exact ⟨fun h => ⟨trivial, h⟩, fun h => h.2⟩
  | cons r a ih =>
    show (_ ∧ Ch r.2 (a ++ b)) ↔ (_ ∧ Ch r.2 a) ∧ Ch (lastL r.2 a) b
    rw [ih, and_assoc]
theorem lkd_ch (g : LG) (h : g.low * g.per + 1 < g.next) (rs : List Rc) : Lkd g rs ↔ Ch g.last rs := by
  induction rs generalizing g with
  | nil => exact Iff.rfl
  | cons r rs ih =>
    have he : g.empty = false := by unfold LG.empty; exact decide_eq_false (by omega)
    show (((g.empty = true ∧ _) ∨ _) ∧ Lkd (g.fol r) rs) ↔ _
    rw [ih (g.fol r) (show g.low * g.per + 1 < g.next + 1 by omega)]
    unfold LG.ahd
    rw [he]
    simp only [Bool.false_eq_true, false_and, false_or, if_false]
    exact Iff.rfl
/-- the links of a log's records -/
def Lks (per lo : Nat) : List Rc → Prop
  | [] => True
  | r :: rs => (lo * per + 1 ≠ 1 ∨ r.2 = chn (List.replicate 32 0) r.1) ∧ Ch r.2 rs
theorem lkd_lks (per lo : Nat) (hi : Nat) (l0 : List Nat) (en : Bool) (rs : List Rc) : Lkd ⟨per, lo, hi, lo * per + 1, l0, en⟩ rs ↔ Lks per lo rs := by
  cases rs with
  | nil => exact Iff.rfl
  | cons r rs =>
    have he : (⟨per, lo, hi, lo * per + 1, l0, en⟩ : LG).empty = true := by unfold LG.empty; exact decide_eq_true rfl
    show (((_ = true ∧ _) ∨ _) ∧ Lkd (LG.fol _ r) rs) ↔ _
    rw [lkd_ch _ (show lo * per + 1 < lo * per + 1 + 1 by omega)]
    unfold LG.ahd
    rw [he]
    simp only [true_and, if_true]
    exact Iff.rfl
theorem gst_ahd0 (per lo : Nat) (l0 : List Nat) : (gst per lo [] l0).ahd = List.replicate 32 0 := by
  have he : (gst per lo [] l0).empty = true := by unfold LG.empty; exact decide_eq_true rfl
  unfold LG.ahd
  rw [he]
  rfl
theorem gst_ahd (per lo : Nat) (r : Rc) (rs : List Rc) (l0 : List Nat) : (gst per lo (r :: rs) l0).ahd = lastL r.2 rs := by
  have he : (gst per lo (r :: rs) l0).empty = false := by
    unfold LG.empty
    rw [gst_next, gst_low, gst_per, List.length_cons]
    exact decide_eq_false (by omega)
  unfold LG.ahd
  rw [he, if_neg (by decide)]
  unfold gst
  rw [adv_eq]
  rfl
theorem lks_app {per lo : Nat} {rs : List Rc} (h : Lks per lo rs) (pl x : List Nat) (l0 : List Nat) (hx : x = chn (gst per lo rs l0).ahd pl) : Lks per lo (rs ++ [(pl, x)]) := by
  cases rs with
  | nil =>
    rw [gst_ahd0] at hx
    exact ⟨Or.inr hx, trivial⟩
  | cons r rs =>
    rw [gst_ahd] at hx
    exact ⟨h.1, (ch_app _ _ _).2 ⟨h.2, hx, trivial⟩⟩
theorem lks_drop {per lo : Nat} {rs : List Rc} (hp : 1 ≤ per) (h : Lks per lo rs) : Lks per (lo + 1) (rs.drop per) := by
  cases rs with
  | nil => rw [List.drop_nil]; trivial
  | cons r rs =>
    have h2 := h.2
    obtain ⟨k, rfl⟩ : ∃ k, per = k + 1 := ⟨per - 1, by omega⟩
    rw [List.drop_succ_cons]
    rw [← List.take_append_drop k rs, ch_app] at h2
    cases hd : rs.drop k with
    | nil => trivial
    | cons s ss =>
      rw [hd] at h2
      refine ⟨Or.inl ?_, h2.2.2⟩
      rw [Nat.add_mul]
      omega
theorem gst_drop {per lo : Nat} {rs : List Rc} (hp : 1 ≤ per) (hT : per < rs.length) (l0 l1 : List Nat) : gst per (lo + 1) (rs.drop per) l1 = { (gst per lo rs l0) with low := lo + 1 } := by
  unfold gst
  rw [adv_eq, adv_eq]
  unfold LG.hi
  dsimp only
  have e1 : (lo + 1) * per + 1 + (rs.drop per).length = lo * per + 1 + rs.length := by rw [List.length_drop, Nat.add_mul, Nat.one_mul]; omega
  have e2 : lo + 1 + ((rs.drop per).length - 1) / per = lo + (rs.length - 1) / per := by
    rw [List.length_drop, show rs.length - 1 = (rs.length - per - 1) + per by omega, Nat.add_div_right _ (by omega)]
    omega
  have e3 : lastL l1 (rs.drop per) = lastL l0 rs := by
    conv => rhs; rw [← List.take_append_drop per rs]
    rw [lastL_app]
    exact lastL_any _ _ _ (fun e => by have := congrArg List.length e; rw [List.length_drop] at this; simp at this; omega)
  rw [e1, e2, e3]
/-- all segments behind one another -/
theorem sgt_flat (per : Nat) (hp : 1 ≤ per) (rs : List Rc) : ∀ k, ((List.range k).map (sgt per rs)).flatten = rs.take (k * per)
  | 0 => by simp
  | k + 1 => by
    rw [List.range_succ, List.map_append, List.flatten_append, sgt_flat per hp rs k, Nat.add_mul, Nat.one_mul, List.take_add]
    simp [sgt]
theorem sgt_all (per : Nat) (hp : 1 ≤ per) (rs : List Rc) : ((List.range (nsg per rs.length)).map (sgt per rs)).flatten = rs := by
  rw [sgt_flat per hp, List.take_of_length_le]
  have h := (nsg_lt (per := per) (T := rs.length) (i := nsg per rs.length) hp).1
  rcases Nat.lt_or_ge (nsg per rs.length * per) rs.length with h1 | h1
  · exact absurd ((nsg_lt hp).2 h1) (by omega)
  · exact h1
theorem nsg_pred {per T : Nat} (hp : 1 ≤ per) (hT : 0 < T) : nsg per T = (T - 1) / per + 1 := by
  unfold nsg
  rw [show T + per - 1 = (T - 1) + per by omega, Nat.add_div_right _ (by omega)]
end Go.Proofs.YtkmdegmpffgplaaGreatDoor
