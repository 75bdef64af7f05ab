/- log XXI: the files of a log, in plain words. -/
import Derived.Test.YtkmdegmpffgplaaGreatDoorLbj
namespace Go.Proofs.YtkmdegmpffgplaaGreatDoor
open Go.RowKit Go.Maps Go.Sort Go.Shelf pk
set_option linter.unusedVariables false
set_option linter.unusedSimpArgs false
theorem lt_app : ∀ (a b s t : List UInt8), a.length = b.length → a < b → a ++ s < b ++ t
  | [], [], s, t, _, h => absurd h (List.lt_irrefl _)
  | [], y :: b, s, t, h, _ => by simp at h
  | x :: a, [], s, t, h, _ => by simp at h
  | x :: a, y :: b, s, t, h, hl => by
    rw [List.cons_append, List.cons_append, List.cons_lt_cons_iff]
    rcases List.cons_lt_cons_iff.1 hl with h1 | ⟨h1, h2⟩
    · exact Or.inl h1
    · exact Or.inr ⟨h1, lt_app a b s t (by simpa using h) h2⟩
theorem lt_app2 : ∀ (a s t : List UInt8), s < t → a ++ s < a ++ t
  | [], s, t, h => h
  | x :: a, s, t, h => by rw [List.cons_append, List.cons_append, List.cons_lt_cons_iff]; exact Or.inr ⟨rfl, lt_app2 a s t h⟩
theorem dgL_lt : ∀ k a b, a < 10 ^ k → b < 10 ^ k → a < b → dgL k a < dgL k b
  | 0, a, b, h1, h2, h => by simp at h1 h2; omega
  | k + 1, a, b, h1, h2, h => by
    unfold dgL
    rw [Nat.pow_succ] at h1 h2
    rcases Nat.lt_or_ge (a / 10) (b / 10) with h3 | h3
    · exact lt_app _ _ _ _ (by rw [dgL_len, dgL_len]) (dgL_lt k _ _ (by omega) (by omega) h3)
    · rw [show a / 10 = b / 10 by omega]
      refine lt_app2 _ _ _ (List.cons_lt_cons_iff.2 (Or.inl ?_))
      rw [UInt8.lt_iff_toNat_lt]
      show (48 + a % 10) % 256 < (48 + b % 10) % 256
      omega
theorem nmS_lt {a b : Nat} (ha : a ≤ 99999999) (hb : b ≤ 99999999) (h : a < b) : nmS a < nmS b := by
  unfold nmS
  exact List.cons_lt_cons_iff.2 (Or.inr ⟨rfl, dgL_lt 8 a b (by omega) (by omega) h⟩)
theorem nmS_le {a b : Nat} (ha : a ≤ 99999999) (hb : b ≤ 99999999) (h : nmS a ≤ nmS b) : a ≤ b := by
  rcases Nat.lt_or_ge b a with h1 | h1
  · exact absurd (nmS_lt hb ha h1) h
  · exact h1
theorem nmS_inj {a b : Nat} (ha : a ≤ 99999999) (hb : b ≤ 99999999) (h : nmS a = nmS b) : a = b :=
  Nat.le_antisymm (nmS_le ha hb (by rw [h]; exact List.le_refl _)) (nmS_le hb ha (by rw [h]; exact List.le_refl _))
theorem srt_eq : ∀ (a b : List Nat), a.Pairwise (· < ·) → b.Pairwise (· < ·) → (∀ n, n ∈ a ↔ n ∈ b) → a = b
  | [], [], _, _, _ => rfl
  | [], y :: b, _, _, h => absurd ((h y).2 (List.mem_cons_self ..)) (by simp)
  | x :: a, [], _, _, h => absurd ((h x).1 (List.mem_cons_self ..)) (by simp)
  | x :: a, y :: b, h1, h2, h => by
    rw [List.pairwise_cons] at h1 h2
    have e : x = y := by
      rcases List.mem_cons.1 ((h x).1 (List.mem_cons_self ..)) with e | e
      · exact e
      rcases List.mem_cons.1 ((h y).2 (List.mem_cons_self ..)) with e2 | e2
      · exact e2.symm
      have := h2.1 x e
      have := h1.1 y e2
      omega
    subst e
    rw [srt_eq a b h1.2 h2.2 (fun n => ⟨fun hn => ?_, fun hn => ?_⟩)]
    · rcases List.mem_cons.1 ((h n).1 (List.mem_cons_of_mem _ hn)) with e | e
      · have := h1.1 n hn; omega
      · exact e
    · rcases List.mem_cons.1 ((h n).2 (List.mem_cons_of_mem _ hn)) with e | e
      · have := h2.1 n hn; omega
      · exact e
/-- the records of segment i -/
def sgt (per : Nat) (rs : List Rc) (i : Nat) : List Rc := (rs.drop (i * per)).take per
theorem sgt_len (per : Nat) (rs : List Rc) (i : Nat) : (sgt per rs i).length = min per (rs.length - i * per) := by unfold sgt; rw [List.length_take, List.length_drop]
def nsg (per T : Nat) : Nat := (T + per - 1) / per
theorem nsg_lt {per T i : Nat} (h : 1 ≤ per) : i < nsg per T ↔ i * per < T := by
  unfold nsg
  rw [show (i < (T + per - 1) / per) ↔ (i + 1 ≤ (T + per - 1) / per) from Iff.rfl, Nat.le_div_iff_mul_le (by omega), Nat.add_mul, Nat.one_mul]
  omega
/-- the files of a log -/
structure Fls (fs : FS) (per lo : Nat) (rs : List Rc) : Prop where
  file : ∀ i, i * per < rs.length → ∃ t, lk fs (nmS (lo + i)) = some t ∧ flat t.2.1 = segB ((lo + i) * per + 1) (sgt per rs i)
  only : ∀ k, k ≤ 99999999 → nmS k ∈ nms fs → ∃ i, k = lo + i ∧ i * per < rs.length
  name : ∀ l ∈ nms fs, l = nmO .data ∨ l = nmO .one ∨ ∃ k, k ≤ 99999999 ∧ l = nmS k
theorem nms_rfs (fs : FS) (k : Nat) (bs : List Nat) (l : List UInt8) : l ∈ nms (rfs fs k bs) ↔ l = nmS k ∨ l ∈ nms fs := by
  unfold rfs
  rw [sync_fs, nms_map _ _ (fun t => by split <;> rfl), nms_apd]
  split
  · exact ⟨Or.inr, fun h => h.elim (fun e => by rw [e]; assumption) id⟩
  · rw [List.mem_append, List.mem_singleton]; exact Or.comm
theorem fil_app {fs : FS} {per lo : Nat} {rs : List Rc} (hp : 1 ≤ per) (h : Fls fs per lo rs) (r : Rc) (hb : lo + rs.length / per ≤ 99999999) :
    Fls (rfs fs (lo + rs.length / per) (secL (lo * per + 1 + rs.length) r.1 r.2)) per lo (rs ++ [r]) := by
  obtain ⟨q, hq⟩ : ∃ q, q = rs.length / per := ⟨_, rfl⟩
  rw [← hq] at hb ⊢
  have hd := Nat.div_add_mod rs.length per
  have hm := Nat.mod_lt rs.length (show per > 0 by omega)
  rw [← hq, Nat.mul_comm] at hd
  generalize rs.length % per = m at hd hm
  have hlen : (rs ++ [r]).length = rs.length + 1 := by simp
  refine ⟨fun i hi => ?_, fun k hk hm2 => ?_, fun l hl => ?_⟩
  · rw [hlen] at hi
    rcases Nat.lt_trichotomy i q with hiq | hiq | hiq
    · have h1 : (i + 1) * per ≤ q * per := Nat.mul_le_mul_right _ hiq
      rw [Nat.add_mul, Nat.one_mul] at h1
      obtain ⟨t, h2, h3⟩ := h.file i (by omega)
      refine ⟨t, ?_, ?_⟩
      · rw [lk_rfs_other _ _ _ _ (fun e => by have := nmS_inj (by omega) (by omega) e; omega)]
        exact h2
      · rw [h3]
        unfold sgt
        rw [List.drop_append_of_le_length (by omega), List.take_append_of_le_length (by rw [List.length_drop]; omega)]
    · subst hiq
      have hnum : (lo + i) * per + 1 + m = lo * per + 1 + rs.length := by rw [Nat.add_mul]; omega
      by_cases hm0 : m = 0
      · have hn : lk fs (nmS (lo + i)) = none := by
          rw [lk_none]
          intro hin
          obtain ⟨j, hj, hj2⟩ := h.only _ hb hin
          have : j = i := by omega
          subst this
          omega
        refine ⟨_, lk_rfs_new _ _ _ hn, ?_⟩
        show flat (parts _) = _
        rw [flat_sec]
        have : sgt per (rs ++ [r]) i = [r] := by
          unfold sgt
          rw [show i * per = rs.length by omega, List.drop_left, List.take_of_length_le (by simpa using hp)]
        rw [this]
        show _ = secL _ _ _ ++ []
        rw [List.append_nil, ← hnum, hm0, Nat.add_zero]
      · obtain ⟨t, h2, h3⟩ := h.file i (by omega)
        refine ⟨_, lk_rfs_more _ _ _ t h2, ?_⟩
        show flat (t.2.1 ++ parts _) = _
        rw [flat_app, flat_sec, h3]
        have hs : sgt per (rs ++ [r]) i = sgt per rs i ++ [r] := by
          unfold sgt
          rw [List.drop_append_of_le_length (by omega), List.take_of_length_le (by rw [List.length_append, List.length_drop]; simp; omega), List.take_of_length_le (by rw [List.length_drop]; omega)]
        rw [hs, segB_snoc, sgt_len, show min per (rs.length - i * per) = m by omega, hnum]
    · have h1 : (q + 1) * per ≤ i * per := Nat.mul_le_mul_right _ hiq
      rw [Nat.add_mul, Nat.one_mul] at h1
      omega
  · rw [hlen]
    rcases (nms_rfs _ _ _ _).1 hm2 with e | e
    · exact ⟨q, nmS_inj hk hb e, by omega⟩
    · obtain ⟨i, h1, h2⟩ := h.only k hk e
      exact ⟨i, h1, by omega⟩
  · rcases (nms_rfs _ _ _ _).1 hl with e | e
    · exact Or.inr (Or.inr ⟨_, hb, e⟩)
    · exact h.name l e
/-- the first file goes -/
theorem fil_drop {fs : FS} {per lo : Nat} {rs : List Rc} (hp : 1 ≤ per) (h : Fls fs per lo rs) (hlo : lo ≤ 99999999) (hT : per < rs.length) (hb : lo + rs.length / per ≤ 99999999) :
    Fls (fs.filter (fun t => decide (t.1 ≠ nmS lo))) per (lo + 1) (rs.drop per) := by
  have hn : ∀ l, l ∈ nms (fs.filter (fun t => decide (t.1 ≠ nmS lo))) ↔ l ≠ nmS lo ∧ l ∈ nms fs := by
    intro l
    unfold nms
    rw [List.mem_map, List.mem_map]
    constructor
    · rintro ⟨t, h1, rfl⟩
      rw [List.mem_filter] at h1
      exact ⟨by simpa using h1.2, t, h1.1, rfl⟩
    · rintro ⟨h1, t, h2, rfl⟩
      exact ⟨t, List.mem_filter.2 ⟨h2, by simpa using h1⟩, rfl⟩
  refine ⟨fun i hi => ?_, fun k hk hm2 => ?_, fun l hl => h.name l ((hn l).1 hl).2⟩
  · rw [List.length_drop] at hi
    have h1 : (i + 1) * per = i * per + per := by rw [Nat.add_mul, Nat.one_mul]
    obtain ⟨t, h2, h3⟩ := h.file (i + 1) (by omega)
    have hle : lo + (i + 1) ≤ 99999999 := by
      have : i + 1 ≤ rs.length / per := (Nat.le_div_iff_mul_le (by omega)).2 (by omega)
      omega
    refine ⟨t, ?_, ?_⟩
    · rw [show lo + 1 + i = lo + (i + 1) by omega]
      have hne : nmS (lo + (i + 1)) ≠ nmS lo := fun e => by have := nmS_inj hle hlo e; omega
      rw [← h2]
      unfold lk
      rw [List.find?_filter]
      congr 1
      funext u
      by_cases hu : u.1 = nmS (lo + (i + 1))
      · simp [hu, hne]
      · simp [hu]
    · rw [h3, show lo + 1 + i = lo + (i + 1) by omega]
      unfold sgt
      rw [List.drop_drop, h1, Nat.add_comm per]
  · rw [List.length_drop]
    obtain ⟨h1, h2⟩ := (hn _).1 hm2
    obtain ⟨i, h3, h4⟩ := h.only k hk h2
    rcases i with _ | i
    · exact absurd (by rw [h3, Nat.add_zero]) h1
    · refine ⟨i, by omega, ?_⟩
      rw [Nat.add_mul, Nat.one_mul] at h4
      omega
theorem nk_xs (ns : List (List UInt8)) : (∀ l ∈ ns, l = nmO .data ∨ l = nmO .one ∨ ∃ n, n ≤ 99999999 ∧ l = nmS n) → ∃ xs : List Nk, ns = xs.map nmO ∧ ∀ n, Nk.seg n ∈ xs → n ≤ 99999999 := by
  induction ns with
  | nil => intro _; exact ⟨[], rfl, fun n h => by cases h⟩
  | cons l ns ih =>
    intro h
    obtain ⟨xs, h1, h2⟩ := ih (fun l hl => h l (List.mem_cons_of_mem _ hl))
    rcases h l (List.mem_cons_self ..) with rfl | rfl | ⟨n, hn, rfl⟩
    · exact ⟨.data :: xs, by rw [h1]; rfl, fun n hh => h2 n (by simpa using hh)⟩
    · exact ⟨.one :: xs, by rw [h1]; rfl, fun n hh => h2 n (by simpa using hh)⟩
    · exact ⟨.seg n :: xs, by rw [h1]; rfl, fun k hh => by
        rcases List.mem_cons.1 hh with e | e
        · cases e; exact hn
        · exact h2 k e⟩
theorem nmO_seg {k : Nk} {n : Nat} (h : nmO k = nmS n) (hn : n ≤ 99999999) (hk : ∀ j, k = .seg j → j ≤ 99999999) : k = .seg n := by
  cases k with
  | seg j => rw [nmS_inj (hk j rfl) hn h]
  | data => have := congrArg List.length h; rw [nmS_len] at this; cases this
  | one => have := congrArg List.length h; rw [nmS_len] at this; cases this
/-- the numbers, in their order -/
theorem fil_nums {fs : FS} {per lo : Nat} {rs : List Rc} (hp : 1 ≤ per) (h : Fls fs per lo rs) (hb : lo + nsg per rs.length ≤ 99999999) {ns : List (List UInt8)} {xs : List Nk} (hpm : ns.Perm (nms fs)) (ho : ns.Pairwise (fun a b => a ≤ b)) (hnd : (nms fs).Nodup) (he : ns = xs.map nmO) (hx : ∀ n, Nk.seg n ∈ xs → n ≤ 99999999) :
    xs.filterMap Nk.num = (List.range (nsg per rs.length)).map (lo + ·) := by
  refine srt_eq _ _ ?_ ?_ (fun n => ?_)
  · have hnd2 : ns.Nodup := hpm.nodup_iff.2 hnd
    have h3 : ns.Pairwise (fun a b => a ≤ b ∧ a ≠ b) := ho.and hnd2
    rw [he, List.pairwise_map] at h3
    rw [List.pairwise_filterMap]
    refine List.Pairwise.imp_of_mem (fun {a b} ha hb hab c hc d hd => ?_) h3
    have e1 : a = .seg c := by cases a <;> cases hc; rfl
    have e2 : b = .seg d := by cases b <;> cases hd; rfl
    subst e1 e2
    have := nmS_le (hx c ha) (hx d hb) hab.1
    have hne : c ≠ d := fun e => hab.2 (by rw [e])
    omega
  · rw [List.pairwise_map]
    exact List.Pairwise.imp (fun h => by omega) (List.pairwise_lt_range)
  · rw [List.mem_filterMap, List.mem_map]
    constructor
    · rintro ⟨a, ha, e⟩
      have e1 : a = .seg n := by cases a <;> cases e; rfl
      subst e1
      have hin : nmS n ∈ nms fs := hpm.mem_iff.1 (by rw [he]; exact List.mem_map.2 ⟨_, ha, rfl⟩)
      obtain ⟨i, h1, h2⟩ := h.only n (hx n ha) hin
      exact ⟨i, List.mem_range.2 ((nsg_lt hp).2 h2), h1.symm⟩
    · rintro ⟨i, hi, rfl⟩
      have hi' := List.mem_range.1 hi
      obtain ⟨t, h1, h2⟩ := h.file i ((nsg_lt hp).1 hi')
      have hin : nmS (lo + i) ∈ nms fs := (lk_isSome _ _).1 (by rw [h1]; rfl)
      have := hpm.mem_iff.2 hin
      rw [he] at this
      obtain ⟨a, ha, e⟩ := List.mem_map.1 this
      have := nmO_seg e (by omega) (fun j ej => hx j (by rw [← ej]; exact ha))
      exact ⟨a, ha, by rw [this]; rfl⟩
/-- the log in memory that has these records -/
def gst (per lo : Nat) (rs : List Rc) (l0 : List Nat) : LG := (adv ⟨per, lo, lo, lo * per + 1, l0, false⟩ rs).hi (lo + (rs.length - 1) / per)
theorem gst_app (per lo : Nat) (rs : List Rc) (l0 : List Nat) (r : Rc) (hp : 1 ≤ per) : gst per lo (rs ++ [r]) l0 = { (gst per lo rs l0) with high := sgm (gst per lo rs l0), last := r.2, next := (gst per lo rs l0).next + 1 } := by
  have e := adv_per ⟨per, lo, lo, lo * per + 1, l0, false⟩ rs
  have h1 : sgm (gst per lo rs l0) = lo + rs.length / per := by
    unfold sgm gst LG.hi
    dsimp only
    rw [e.2.2.2.2, e.1]
    dsimp only
    rw [show lo * per + 1 + rs.length - 1 = rs.length + lo * per by omega, Nat.add_mul_div_right _ _ (by omega), Nat.add_comm]
  rw [h1]
  unfold gst
  rw [adv_fol, List.length_append, List.length_singleton, Nat.add_sub_cancel]
  rfl
theorem gst_next (per lo : Nat) (rs : List Rc) (l0 : List Nat) : (gst per lo rs l0).next = lo * per + 1 + rs.length := (adv_per ⟨per, lo, lo, lo * per + 1, l0, false⟩ rs).2.2.2.2
theorem gst_per (per lo : Nat) (rs : List Rc) (l0 : List Nat) : (gst per lo rs l0).per = per := (adv_per ⟨per, lo, lo, lo * per + 1, l0, false⟩ rs).1
theorem gst_low (per lo : Nat) (rs : List Rc) (l0 : List Nat) : (gst per lo rs l0).low = lo := (adv_per ⟨per, lo, lo, lo * per + 1, l0, false⟩ rs).2.1
theorem gst_ended (per lo : Nat) (rs : List Rc) (l0 : List Nat) : (gst per lo rs l0).ended = false := (adv_per ⟨per, lo, lo, lo * per + 1, l0, false⟩ rs).2.2.2.1
theorem gst_sgm (per lo : Nat) (rs : List Rc) (l0 : List Nat) (hp : 1 ≤ per) : sgm (gst per lo rs l0) = lo + rs.length / per := by
  unfold sgm
  rw [gst_next, gst_per, show lo * per + 1 + rs.length - 1 = rs.length + lo * per by omega, Nat.add_mul_div_right _ _ (by omega), Nat.add_comm]
theorem adv_last (g : LG) (rs : List Rc) (h : g.last.length = 32 ∧ By g.last) (hr : ∀ r ∈ rs, Rok r) : (adv g rs).last.length = 32 ∧ By (adv g rs).last := by
  induction rs generalizing g with
  | nil => exact h
  | cons r rs ih => exact ih (g.fol r) ⟨(hr r (List.mem_cons_self ..)).ll, (hr r (List.mem_cons_self ..)).lb⟩ (fun r' h' => hr r' (List.mem_cons_of_mem _ h'))
/-- the last link -/
def lastL : List Nat → List Rc → List Nat
  | l, [] => l
  | _, r :: rs => lastL r.2 rs
theorem adv_eq (g : LG) (rs : List Rc) : adv g rs = ⟨g.per, g.low, g.high, g.next + rs.length, lastL g.last rs, g.ended⟩ := by
  induction rs generalizing g with
  | nil => rfl
  | cons r rs ih =>
    show adv (g.fol r) rs = _
    rw [ih]
    show (⟨g.per, g.low, g.high, g.next + 1 + rs.length, lastL r.2 rs, g.ended⟩ : LG) = ⟨g.per, g.low, g.high, g.next + (rs.length + 1), lastL r.2 rs, g.ended⟩
    rw [show g.next + 1 + rs.length = g.next + (rs.length + 1) by omega]
theorem lastL_app (l : List Nat) (a b : List Rc) : lastL l (a ++ b) = lastL (lastL l a) b := by
  induction a generalizing l with
  | nil => rfl
  | cons r a ih => exact ih r.2
theorem lastL_any (l l' : List Nat) (rs : List Rc) (h : rs ≠ []) : lastL l rs = lastL l' rs := by
  cases rs with
  | nil => exact absurd rfl h
  | cons r rs => rfl
/-- links behind a link -/
def Ch : List Nat → List Rc → Prop
  | _, [] => True
  | l, r :: rs => r.2 = chn l r.1 ∧ Ch r.2 rs
theorem ch_app (l : List Nat) (a b : List Rc) : Ch l (a ++ b) ↔ Ch l a ∧ Ch (lastL l a) b := by
  induction a generalizing l with
  | nil => exact ⟨fun h => ⟨trivial, h⟩, fun h => h.2⟩
  | cons r a ih =>
    show (_ ∧ Ch r.2 (a ++ b)) ↔ (_ ∧ Ch r.2 a) ∧ Ch (lastL r.2 a) b
    rw [ih, and_assoc]
theorem lkd_ch (g : LG) (h : g.low * g.per + 1 < g.next) (rs : List Rc) : Lkd g rs ↔ Ch g.last rs := by
  induction rs generalizing g with
  | nil => exact Iff.rfl
  | cons r rs ih =>
    have he : g.empty = false := by unfold LG.empty; exact decide_eq_false (by omega)
    show (((g.empty = true ∧ _) ∨ _) ∧ Lkd (g.fol r) rs) ↔ _
    rw [ih (g.fol r) (show g.low * g.per + 1 < g.next + 1 by omega)]
    unfold LG.ahd
    rw [he]
    simp only [Bool.false_eq_true, false_and, false_or, if_false]
    exact Iff.rfl
/-- the links of a log's records -/
def Lks (per lo : Nat) : List Rc → Prop
  | [] => True
  | r :: rs => (lo * per + 1 ≠ 1 ∨ r.2 = chn (List.replicate 32 0) r.1) ∧ Ch r.2 rs
theorem lkd_lks (per lo : Nat) (hi : Nat) (l0 : List Nat) (en : Bool) (rs : List Rc) : Lkd ⟨per, lo, hi, lo * per + 1, l0, en⟩ rs ↔ Lks per lo rs := by
  cases rs with
  | nil => exact Iff.rfl
  | cons r rs =>
    have he : (⟨per, lo, hi, lo * per + 1, l0, en⟩ : LG).empty = true := by unfold LG.empty; exact decide_eq_true rfl
    show (((_ = true ∧ _) ∨ _) ∧ Lkd (LG.fol _ r) rs) ↔ _
    rw [lkd_ch _ (show lo * per + 1 < lo * per + 1 + 1 by omega)]
    unfold LG.ahd
    rw [he]
    simp only [true_and, if_true]
    exact Iff.rfl
theorem gst_ahd0 (per lo : Nat) (l0 : List Nat) : (gst per lo [] l0).ahd = List.replicate 32 0 := by
  have he : (gst per lo [] l0).empty = true := by unfold LG.empty; exact decide_eq_true rfl
  unfold LG.ahd
  rw [he]
  rfl
theorem gst_ahd (per lo : Nat) (r : Rc) (rs : List Rc) (l0 : List Nat) : (gst per lo (r :: rs) l0).ahd = lastL r.2 rs := by
  have he : (gst per lo (r :: rs) l0).empty = false := by
    unfold LG.empty
    rw [gst_next, gst_low, gst_per, List.length_cons]
    exact decide_eq_false (by omega)
  unfold LG.ahd
  rw [he, if_neg (by decide)]
  unfold gst
  rw [adv_eq]
  rfl
theorem lks_app {per lo : Nat} {rs : List Rc} (h : Lks per lo rs) (pl x : List Nat) (l0 : List Nat) (hx : x = chn (gst per lo rs l0).ahd pl) : Lks per lo (rs ++ [(pl, x)]) := by
  cases rs with
  | nil =>
    rw [gst_ahd0] at hx
    exact ⟨Or.inr hx, trivial⟩
  | cons r rs =>
    rw [gst_ahd] at hx
    exact ⟨h.1, (ch_app _ _ _).2 ⟨h.2, hx, trivial⟩⟩
theorem lks_drop {per lo : Nat} {rs : List Rc} (hp : 1 ≤ per) (h : Lks per lo rs) : Lks per (lo + 1) (rs.drop per) := by
  cases rs with
  | nil => rw [List.drop_nil]; trivial
  | cons r rs =>
    have h2 := h.2
    obtain ⟨k, rfl⟩ : ∃ k, per = k + 1 := ⟨per - 1, by omega⟩
    rw [List.drop_succ_cons]
    rw [← List.take_append_drop k rs, ch_app] at h2
    cases hd : rs.drop k with
    | nil => trivial
    | cons s ss =>
      rw [hd] at h2
      refine ⟨Or.inl ?_, h2.2.2⟩
      rw [Nat.add_mul]
      omega
theorem gst_drop {per lo : Nat} {rs : List Rc} (hp : 1 ≤ per) (hT : per < rs.length) (l0 l1 : List Nat) : gst per (lo + 1) (rs.drop per) l1 = { (gst per lo rs l0) with low := lo + 1 } := by
  unfold gst
  rw [adv_eq, adv_eq]
  unfold LG.hi
  dsimp only
  have e1 : (lo + 1) * per + 1 + (rs.drop per).length = lo * per + 1 + rs.length := by rw [List.length_drop, Nat.add_mul, Nat.one_mul]; omega
  have e2 : lo + 1 + ((rs.drop per).length - 1) / per = lo + (rs.length - 1) / per := by
    rw [List.length_drop, show rs.length - 1 = (rs.length - per - 1) + per by omega, Nat.add_div_right _ (by omega)]
    omega
  have e3 : lastL l1 (rs.drop per) = lastL l0 rs := by
    conv => rhs; rw [← List.take_append_drop per rs]
    rw [lastL_app]
    exact lastL_any _ _ _ (fun e => by have := congrArg List.length e; rw [List.length_drop] at this; simp at this; omega)
  rw [e1, e2, e3]
/-- all segments behind one another -/
theorem sgt_flat (per : Nat) (hp : 1 ≤ per) (rs : List Rc) : ∀ k, ((List.range k).map (sgt per rs)).flatten = rs.take (k * per)
  | 0 => by simp
  | k + 1 => by
    rw [List.range_succ, List.map_append, List.flatten_append, sgt_flat per hp rs k, Nat.add_mul, Nat.one_mul, List.take_add]
    simp [sgt]
theorem sgt_all (per : Nat) (hp : 1 ≤ per) (rs : List Rc) : ((List.range (nsg per rs.length)).map (sgt per rs)).flatten = rs := by
  rw [sgt_flat per hp, List.take_of_length_le]
  have h := (nsg_lt (per := per) (T := rs.length) (i := nsg per rs.length) hp).1
  rcases Nat.lt_or_ge (nsg per rs.length * per) rs.length with h1 | h1
  · exact absurd ((nsg_lt hp).2 h1) (by omega)
  · exact h1
theorem nsg_pred {per T : Nat} (hp : 1 ≤ per) (hT : 0 < T) : nsg per T = (T - 1) / per + 1 := by
  unfold nsg
  rw [show T + per - 1 = (T - 1) + per by omega, Nat.add_div_right _ (by omega)]
end Go.Proofs.YtkmdegmpffgplaaGreatDoor
/- log XX: read of a whole log. -/
namespace Go.Proofs.YtkmdegmpffgplaaGreatDoor
open Go.RowKit Go.Maps Go.Sort Go.Shelf pk
set_option linter.unusedVariables false
set_option linter.unusedSimpArgs false
/-- the files of a whole log: a file a segment, all but the last full -/
structure Whole (x : AD) (per lo : Nat) (ss : List (List Rc)) : Prop where
  file : ∀ i rs, ss[i]? = some rs → ∃ t, lk x.fs (nmS (lo + i)) = some t ∧ flat t.2.1 = segB ((lo + i) * per + 1) rs
  full : ∀ i rs, ss[i]? = some rs → i + 1 < ss.length → rs.length = per
  last : ∀ rs ∈ ss, rs.length ≤ per ∧ ∀ r ∈ rs, Rok r
theorem whole_len {x : AD} {per lo : Nat} {ss : List (List Rc)} (h : Whole x per lo ss) : ∀ k, k < ss.length → (ss.take k).flatten.length = k * per
  | 0, _ => by simp
  | k + 1, hk => by
    obtain ⟨rs, hrs⟩ : ∃ rs, ss[k]? = some rs := ⟨_, List.getElem?_eq_getElem (by omega)⟩
    rw [List.take_add_one, hrs, List.flatten_append, List.length_append, whole_len h k (by omega)]
    have := h.full k rs hrs (by omega)
    simp [this, Nat.add_mul]
structure Atk (x : AD) (g0 : LG) (per lo : Nat) (ss : List (List Rc)) (k : Nat) (rs : List Rc) (t : List UInt8 × List (List Nat) × Nat) (gk : LG) : Prop where
  eqk : gk = adv g0 (ss.take k).flatten
  lk : lk x.fs (nmS (lo + k)) = some t
  byt : flat t.2.1 = segB gk.next rs
  lkd : Lkd gk rs
  rok : ∀ r ∈ rs, Rok r
  len : rs.length ≤ per
  next : gk.next = (lo + k) * per + 1
  full : k + 1 < ss.length → rs.length = per
  snoc : (ss.take (k + 1)).flatten = (ss.take k).flatten ++ rs
  per : gk.per = per ∧ gk.low = g0.low ∧ gk.ended = g0.ended
  last : gk.last.length = 32 ∧ By gk.last
theorem whole_at {x : AD} {per lo : Nat} {ss : List (List Rc)} (h : Whole x per lo ss) (g0 : LG) (hn : g0.next = lo * per + 1) (hp : g0.per = per) (hl : g0.last.length = 32 ∧ By g0.last) (hL : Lkd g0 ss.flatten) (k : Nat) (hk : k < ss.length) : ∃ rs t gk, Atk x g0 per lo ss k rs t gk := by
  obtain ⟨rs, hrs⟩ : ∃ rs, ss[k]? = some rs := ⟨_, List.getElem?_eq_getElem hk⟩
  obtain ⟨t, h1, h2⟩ := h.file k rs hrs
  obtain ⟨p1, p2, p3, p4, p5⟩ := adv_per g0 (ss.take k).flatten
  have hnx : (adv g0 (ss.take k).flatten).next = (lo + k) * per + 1 := by rw [p5, whole_len h k hk, hn, Nat.add_mul]; omega
  have hsn : (ss.take (k + 1)).flatten = (ss.take k).flatten ++ rs := by rw [List.take_add_one, hrs, List.flatten_append]; simp
  have hm : rs ∈ ss := List.mem_of_getElem? hrs
  have hsp : ss.flatten = (ss.take k).flatten ++ (rs ++ (ss.drop (k + 1)).flatten) := by
    rw [← List.append_assoc, ← hsn, ← List.flatten_append, List.take_append_drop]
  rw [hsp, lkd_app, lkd_app] at hL
  refine ⟨rs, t, _, rfl, h1, by rw [hnx]; exact h2, hL.2.1, (h.last rs hm).2, (h.last rs hm).1, hnx, h.full k rs hrs, hsn, ⟨p1.trans hp, p2, p4⟩, adv_last _ _ hl (fun r hr => ?_)⟩
  obtain ⟨rs', h3, h4⟩ := List.mem_flatten.1 hr
  exact (h.last rs' (List.mem_of_mem_take h3)).2 r h4
set_option maxRecDepth 100000 in
set_option maxHeartbeats 8000000 in
theorem readL_ok (w : World) (B p m lp lo N : Nat) (x : AD) (g : LG) (ss : List (List Rc)) (h : DA w B p m x) (hon : x.on = true) (hg : Lg w lp p g) (hB : B ≤ lp) (ho : g.ok) (hgl : g.last.length = 32 ∧ By g.last) (hT : PtB B w) (hTb : TbB B w) (va : Option Addr) (vc : Nat) (hv : Sl KI w (.slice va N vc) ((List.range N).map (lo + ·))) (hne : ∀ b o, va = some ⟨b, o, none⟩ → b ≠ lp) (hN : ss.length = N) (hN0 : 0 < N) (hN1 : N ≤ 100) (hlo : lo + N ≤ 4000000) (hW : Whole x g.per lo ss) (hk : Lkd ⟨g.per, lo, lo, lo * g.per + 1, g.last, g.ended⟩ ss.flatten) :
    Calls Tryz.prog 38 #[.pointer (some ⟨lp, 0, none⟩), .slice va N vc] w fun e w' => ∃ u, e = .returned (.tuple #[u, .int .i64 0]) ∧ Pay w' w.heap.size u (ss.flatten.map (·.1)) ∧ Lg w' lp p ((adv ⟨g.per, lo, lo, lo * g.per + 1, g.last, g.ended⟩ ss.flatten).hi (lo + N - 1)) ∧ But (fun i => i = lp) w w' := by
  have HA : Hid (DA w B p m x) := h
  have HGW : Hid (Lg w lp p g) := hg
  have HT0 : Hid (PtB B w ∧ TbB B w) := ⟨hT, hTb⟩
  have HS : Hid (Sl KI w (.slice va N vc) ((List.range N).map (lo + ·))) := hv
  have HNN : Hid (ss.length = N ∧ 0 < N ∧ N ≤ 100 ∧ lo + N ≤ 4000000) := ⟨hN, hN0, hN1, hlo⟩
  have HO : Hid (g.ok ∧ g.last.length = 32 ∧ By g.last) := ⟨ho, hgl⟩
  have HBB : Hid (B ≤ lp ∧ B ≤ w.heap.size) := ⟨hB, h.lt⟩
  have hcap : N ≤ vc ∧ vc ≤ 9223372036854775807 := by
    obtain ⟨_, c', ec, e1, e2, _⟩ := hv.form
    injection ec with _ _ e3
    rw [List.length_map, List.length_range] at e1
    omega
  obtain ⟨vb, vo, rfl, hvb, hcl⟩ := hv.at 0 lo (by rw [List.getElem?_map, List.getElem?_range (by omega)]; rfl)
  have HROW : Hid (∀ k, k < N → w.cell? ⟨vb, vo + k, none⟩ = some (.int .i64 ((lo + k : Nat) : Int))) := fun k hk => by
    obtain ⟨b', o', e', _, hc'⟩ := hv.at k (lo + k) (by rw [List.getElem?_map, List.getElem?_range hk]; rfl)
    cases e'
    have := hc' 0 (.int .i64 ((lo + k : Nat) : Int)) rfl
    rw [show k * KI.k = k from Nat.mul_one k, Nat.add_zero] at this
    exact this
  have HVB : Hid (vb < w.heap.size ∧ vb ≠ lp) := ⟨hvb, hne vb vo rfl⟩
  have c0 : w.cell? ⟨vb, vo, none⟩ = some (.int .i64 (lo : Int)) := by have := hcl 0 (.int .i64 (lo : Int)) rfl; simpa using this
  have y2 := hg.cell 2 (v := .int .i64 (g.low : Int)) rfl
  have f2 := hg.free 2
  have dN : (0 : Int) < (N : Int) := by omega
  obtain ⟨fn, hfn⟩ : ∃ fn, fn = lo * g.per + 1 := ⟨_, rfl⟩
  rw [← hfn] at hk ⊢
  have HEQ : Hid (fn = lo * g.per + 1) := hfn
  have HAT := (show Hid _ from whole_at hW ⟨g.per, lo, lo, fn, g.last, g.ended⟩ hfn rfl hgl hk)
  clear h hg hT hTb hv hW hk ho hgl hcl hne hvb hB
  go_enter Tryz.func38, Tryz.ntmps38
  go_upto_region 3 with fail
  have HG : Hid (Lg (w.setCell ⟨lp, 2, none⟩ (.int .i64 (lo : Int))) lp p { g with low := lo }) := HGW.out.set 2 (.int .i64 (lo : Int))
  have HBU : Hid (But (fun i => i = lp) w (w.setCell ⟨lp, 2, none⟩ (.int .i64 (lo : Int)))) := (But.refl _ _).upd (upd_set w lp 2 _)
  clear y2 f2 c0
  have HFO := (show Hid _ from fun w' (k : Lg w' lp p { g with low := lo }) => firstOf_ok w' lp p { g with low := lo } k ⟨HO.out.1.per, by have := HNN.out; show lo ≤ _; omega, HO.out.1.high, HO.out.1.next⟩ lo (by have := HNN.out; omega))
  have hfn2 : fn = lo * ({ g with low := lo } : LG).per + 1 := hfn
  rw [← hfn2] at HFO
  have HLOW : Hid ((({ g with low := lo, high := lo, next := fn } : LG).cells p)[2]? = some (.int .i64 (lo : Int))) := (show _ = _ from rfl)
  have HY2 : Hid ((w.setCell ⟨lp, 2, none⟩ (.int .i64 (lo : Int))).drew.cell? ⟨lp, 2, none⟩ = some (.int .i64 (lo : Int))) := HG.out.cell 2 rfl
  clear hfn hfn2
  generalize w.setCell ⟨lp, 2, none⟩ (.int .i64 (lo : Int)) = w0 at *
  refine wp_region_noPanic ?_
  refine wp_region_held_drew (S := fun V => V.cell? ⟨lp, 2, none⟩ = some (.int .i64 (lo : Int))) (by kernel_rfl) HY2.out ?_
  intro hHeld
  have HB0 : Hid (But (fun i => i = lp) w w0.drew) := ⟨HBU.out.os, HBU.out.tape, HBU.out.output, HBU.out.size, HBU.out.block⟩
  have HG0 : Hid (Lg w0.drew lp p ({ g with low := lo })) := VA.drew HG.out
  clear HBU HG HY2
  generalize w0.drew = w1 at *
  refine takeD 0 23 (.pointer (some ⟨lp, 0, none⟩)) (by exact rfl) rfl (by kernel_rfl) (by kernel_rfl) (by kernel_rfl) (fun _ _ _ h => h) (Or.inl ⟨by rfl, ?_⟩) (by assumption) ?_
  · intro wq hS
    go_simp
  try simp only [Act.put, List.setIfInBounds_toArray, List.set_cons_zero, List.set_cons_succ]
  refine takeD 1 24 (.pointer (some ⟨lp, 0, none⟩)) (by exact rfl) rfl (by kernel_rfl) (by kernel_rfl) (by kernel_rfl) (fun _ _ _ h => h) (Or.inl ⟨by rfl, ?_⟩) (by assumption) ?_
  · intro wq hS
    go_simp
  try simp only [Act.put, List.setIfInBounds_toArray, List.set_cons_zero, List.set_cons_succ]
  refine takeD 2 25 (.pointer (some ⟨lp, 0, none⟩)) (by exact rfl) rfl (by kernel_rfl) (by kernel_rfl) (by kernel_rfl) (fun _ _ _ h => h) (Or.inl ⟨by rfl, ?_⟩) (by assumption) ?_
  · intro wq hS
    go_simp
  try simp only [Act.put, List.setIfInBounds_toArray, List.set_cons_zero, List.set_cons_succ]
  refine takeD 3 26 (.pointer (some ⟨lp, 0, none⟩)) (by exact rfl) rfl (by kernel_rfl) (by kernel_rfl) (by kernel_rfl) (fun _ _ _ h => h) (Or.inl ⟨by rfl, ?_⟩) (by assumption) ?_
  · intro wq hS
    go_simp
  try simp only [Act.put, List.setIfInBounds_toArray, List.set_cons_zero, List.set_cons_succ]
  refine takeD 4 27 (.pointer (some ⟨lp, 2, none⟩)) (by exact rfl) rfl (by kernel_rfl) (by kernel_rfl) (by kernel_rfl) (fun _ _ _ h => h) (Or.inl ⟨by rfl, ?_⟩) (by assumption) ?_
  · intro wq hS
    go_simp
  try simp only [Act.put, List.setIfInBounds_toArray, List.set_cons_zero, List.set_cons_succ]
  refine takeD 5 28 (.int .i64 (lo : Int)) (by exact rfl) rfl (by kernel_rfl) (by kernel_rfl) (by kernel_rfl) (fun _ _ _ h => h) (Or.inl ⟨by rfl, ?_⟩) (by assumption) ?_
  · intro wq hS
    have c := hS
    go_simp
  try simp only [Act.put, List.setIfInBounds_toArray, List.set_cons_zero, List.set_cons_succ]
  refine takeD 6 29 (.pointer (some ⟨lp, 0, none⟩)) (by exact rfl) rfl (by kernel_rfl) (by kernel_rfl) (by kernel_rfl) (fun _ _ _ h => h) (Or.inl ⟨by rfl, ?_⟩) (by assumption) ?_
  · intro wq hS
    go_simp
  try simp only [Act.put, List.setIfInBounds_toArray, List.set_cons_zero, List.set_cons_succ]
  refine takeD 7 30 (.pointer (some ⟨lp, 0, none⟩)) (by exact rfl) rfl (by kernel_rfl) (by kernel_rfl) (by kernel_rfl) (fun _ _ _ h => h) (Or.inl ⟨by rfl, ?_⟩) (by assumption) ?_
  · intro wq hS
    go_simp
  try simp only [Act.put, List.setIfInBounds_toArray, List.set_cons_zero, List.set_cons_succ]
  refine takeD 8 31 (.pointer (some ⟨lp, 0, none⟩)) (by exact rfl) rfl (by kernel_rfl) (by kernel_rfl) (by kernel_rfl) (fun _ _ _ h => h) (Or.inl ⟨by rfl, ?_⟩) (by assumption) ?_
  · intro wq hS
    go_simp
  try simp only [Act.put, List.setIfInBounds_toArray, List.set_cons_zero, List.set_cons_succ]
  refine takeD 9 32 (.pointer (some ⟨lp, 2, none⟩)) (by exact rfl) rfl (by kernel_rfl) (by kernel_rfl) (by kernel_rfl) (fun _ _ _ h => h) (Or.inl ⟨by rfl, ?_⟩) (by assumption) ?_
  · intro wq hS
    go_simp
  try simp only [Act.put, List.setIfInBounds_toArray, List.set_cons_zero, List.set_cons_succ]
  refine takeD 10 33 (.int .i64 (lo : Int)) (by exact rfl) rfl (by kernel_rfl) (by kernel_rfl) (by kernel_rfl) (fun _ _ _ h => h) (Or.inl ⟨by rfl, ?_⟩) (by assumption) ?_
  · intro wq hS
    have c := hS
    go_simp
  try simp only [Act.put, List.setIfInBounds_toArray, List.set_cons_zero, List.set_cons_succ]
  refine wpAnyH_ready (rs := [11]) (by kernel_rfl) (by simp) ?_
  refine AllReadyH.cons (by exact rfl) (fun K hK => ?_) AllReadyH.nil
  go_simp
  refine (HFO.out w1 HG0.out).mono ?_
  rintro e w1b ⟨rfl, rfl⟩
  skip
  go_wp2_with fail
  refine hK.out _ _ hHeld (fun hHeld => ?_)
  clear hK K 
  try simp only [Act.put, List.setIfInBounds_toArray, List.set_cons_zero, List.set_cons_succ]
  refine takeD 12 35 (.pointer (some ⟨lp, 0, none⟩)) (by exact rfl) rfl (by kernel_rfl) (by kernel_rfl) (by kernel_rfl) (fun _ _ _ h => h) (Or.inl ⟨by rfl, ?_⟩) (by assumption) ?_
  · intro wq hS
    go_simp
  try simp only [Act.put, List.setIfInBounds_toArray, List.set_cons_zero, List.set_cons_succ]
  refine takeD 13 36 (.pointer (some ⟨lp, 3, none⟩)) (by exact rfl) rfl (by kernel_rfl) (by kernel_rfl) (by kernel_rfl) (fun _ _ _ h => h) (Or.inl ⟨by rfl, ?_⟩) (by assumption) ?_
  · intro wq hS
    go_simp
  try simp only [Act.put, List.setIfInBounds_toArray, List.set_cons_zero, List.set_cons_succ]
  have y3 := HG0.out.cell 3 (v := .int .i64 (({ g with low := lo }).high : Int)) rfl
  have f3 := HG0.out.free 3
  have V2 : Lg (w1b.setCell ⟨lp, 3, none⟩ (.int .i64 (lo : Int))) lp p { { g with low := lo } with high := lo } := HG0.out.set 3 (.int .i64 (lo : Int))
  have HB2 : Hid (But (fun i => i = lp) w (w1b.setCell ⟨lp, 3, none⟩ (.int .i64 (lo : Int)))) := HB0.out.upd (upd_set w1b lp 3 _)
  have HL2 : Hid ((w1b.setCell ⟨lp, 3, none⟩ (.int .i64 (lo : Int))).cell? ⟨lp, 2, none⟩ = some (.int .i64 (lo : Int))) := V2.cell 2 (v := .int .i64 (lo : Int)) HLOW.out
  have HV2 := (show Hid _ from V2)
  clear V2
  refine wpAnyH_ready (rs := [14]) (by kernel_rfl) (by simp) ?_
  refine AllReadyH.cons (by exact rfl) (fun K hK => ?_) AllReadyH.nil
  go_simp
  refine hK.out _ _ HL2.out (fun hHeld => ?_)
  clear hK K y3 f3
  try simp only [Act.put, List.setIfInBounds_toArray, List.set_cons_zero, List.set_cons_succ]
  generalize w1b.setCell ⟨lp, 3, none⟩ (.int .i64 (lo : Int)) = w2 at *
  refine takeD 15 37 (.pointer (some ⟨lp, 0, none⟩)) (by exact rfl) rfl (by kernel_rfl) (by kernel_rfl) (by kernel_rfl) (fun _ _ _ h => h) (Or.inl ⟨by rfl, ?_⟩) (by assumption) ?_
  · intro wq hS
    go_simp
  try simp only [Act.put, List.setIfInBounds_toArray, List.set_cons_zero, List.set_cons_succ]
  refine takeD 16 38 (.pointer (some ⟨lp, 4, none⟩)) (by exact rfl) rfl (by kernel_rfl) (by kernel_rfl) (by kernel_rfl) (fun _ _ _ h => h) (Or.inl ⟨by rfl, ?_⟩) (by assumption) ?_
  · intro wq hS
    go_simp
  try simp only [Act.put, List.setIfInBounds_toArray, List.set_cons_zero, List.set_cons_succ]
  have y4 := HV2.out.cell 4 (v := .int .i64 (({ g with low := lo }).next : Int)) rfl
  have f4 := HV2.out.free 4
  have V3 : Lg (w2.setCell ⟨lp, 4, none⟩ (.int .i64 (fn : Int))) lp p { { g with low := lo } with high := lo, next := fn } := HV2.out.set 4 (.int .i64 (fn : Int))
  have HB3 : Hid (But (fun i => i = lp) w (w2.setCell ⟨lp, 4, none⟩ (.int .i64 (fn : Int)))) := HB2.out.upd (upd_set w2 lp 4 _)
  have HL3 : Hid ((w2.setCell ⟨lp, 4, none⟩ (.int .i64 (fn : Int))).cell? ⟨lp, 2, none⟩ = some (.int .i64 (lo : Int))) := V3.cell 2 (v := .int .i64 (lo : Int)) HLOW.out
  have HV3 := (show Hid _ from V3)
  clear V3
  refine wpAnyH_ready (rs := [17]) (by kernel_rfl) (by simp) ?_
  refine AllReadyH.cons (by exact rfl) (fun K hK => ?_) AllReadyH.nil
  go_simp
  refine hK.out _ _ HL3.out (fun hHeld => ?_)
  clear hK K y4 f4
  try simp only [Act.put, List.setIfInBounds_toArray, List.set_cons_zero, List.set_cons_succ]
  generalize w2.setCell ⟨lp, 4, none⟩ (.int .i64 (fn : Int)) = w3 at *
  refine wpAnyH_done (by kernel_rfl) ?_ _
  refine NoPanic.normal ?_
  clear hHeld HB0 HG0 HB2 HL2 HV2 HL3
  have HV3' : Hid (Lg w3 lp p (LG.hi ⟨g.per, lo, lo, fn, g.last, g.ended⟩ lo)) := HV3.out
  clear HV3 HFO HLOW
  go_wp2_with fail
  go_loopw [6, 41] (fun u i wr => ∃ (k : Nat) (hh : Nat), k < N ∧ i = .int .i64 (k : Int) ∧ Hid (Lg wr lp p ((adv ⟨g.per, lo, lo, fn, g.last, g.ended⟩ (ss.take k).flatten).hi hh)) ∧ Hid (Pay wr w.heap.size u ((ss.take k).flatten.map (·.1))) ∧ Hid (But (fun i => i = lp) w wr)) (fun _ i _ => N - (intOf i).toNat)
  case atStart => exact ⟨0, lo, HNN.out.2.1, rfl, HV3', ⟨[], rfl, own_nil KT _ _, fun t ht => by cases ht⟩, HB3⟩
  case round =>
    obtain ⟨k, hh, hk, rfl, HL, HPY, HBU⟩ := hrel
    obtain ⟨rs, t, gk, hat⟩ := HAT.out k (by rw [HNN.out.1]; exact hk)
    have HX : Hid (Atk x ⟨g.per, lo, lo, fn, g.last, g.ended⟩ g.per lo ss k rs t gk) := hat
    rw [← hat.eqk] at HL
    clear hat
    have yk : wr.cell? ⟨vb, vo + k, none⟩ = some (.int .i64 ((lo + k : Nat) : Int)) := by
      rw [← HROW.out k hk]
      exact World.cell?_of_block (a := ⟨vb, vo + k, none⟩) (HBU.out.block vb HVB.out.1 HVB.out.2)
    obtain ⟨c, hc⟩ : ∃ c, c = lo + k := ⟨_, rfl⟩
    rw [← hc] at yk
    have HC : Hid (c = lo + k) := hc
    have hcb : c ≤ 4000000 := by have := HNN.out; omega
    clear hc
    have y3 := HL.out.cell 3 (v := .int .i64 ((hh : Nat) : Int)) rfl
    have f3 := HL.out.free 3
    have dk : (k : Int) < (N : Int) := by omega
    have hN1 : N ≤ 100 := HNN.out.2.2.1
    go_upto_region 9 with fail
    have HL1 : Hid (Lg (wr.setCell ⟨lp, 3, none⟩ (.int .i64 (c : Int))) lp p (gk.hi c)) := HL.out.set 3 (.int .i64 (c : Int))
    have HB1 : Hid (But (fun i => i = lp) w (wr.setCell ⟨lp, 3, none⟩ (.int .i64 (c : Int)))) := HBU.out.upd (upd_set wr lp 3 _)
    have HP1 : Hid (Pay (wr.setCell ⟨lp, 3, none⟩ (.int .i64 (c : Int))) w.heap.size u6 ((ss.take k).flatten.map (·.1))) := HPY.out.kel (KeL.upd (upd_set wr lp 3 _) HL.out)
    clear HL HBU HPY yk y3 f3
    generalize wr.setCell ⟨lp, 3, none⟩ (.int .i64 (c : Int)) = w1 at *
    have HA1 : Hid (DA w1 B p m x) := HA.out.kel (HB1.out.kel HGW.out)
    have HT1 : Hid (PtB B w1 ∧ TbB B w1) := ⟨HT0.out.1.on (HB1.out.below HBB.out.2 (fun i hi => by have h1 : i = lp := hi; rw [h1]; exact HBB.out.1)), HT0.out.2.on (HB1.out.below HBB.out.2 (fun i hi => by have h1 : i = lp := hi; rw [h1]; exact HBB.out.1))⟩
    refine wp_region_noPanic ?_
    refine wp_region_held_drew (S := fun V => V.cell? ⟨lp, 0, none⟩ = some (.pointer (some ⟨p, 0, none⟩))) (by kernel_rfl) (HL1.out.cell 0 rfl) ?_
    intro hHeld
    have HD : Hid (Below w1.heap.size w1 w1.drew) := (Below.refl _ _).drew
    generalize w1.drew = w2 at *
    refine takeD 0 51 (.pointer (some ⟨lp, 0, none⟩)) (by exact rfl) rfl (by kernel_rfl) (by kernel_rfl) (by kernel_rfl) (fun _ _ _ h => h) (Or.inl ⟨by rfl, ?_⟩) (by assumption) ?_
    · intro wq hS
      go_simp
    try simp only [Act.put, List.setIfInBounds_toArray, List.set_cons_zero, List.set_cons_succ]
    refine takeD 1 52 (.pointer (some ⟨lp, 0, none⟩)) (by exact rfl) rfl (by kernel_rfl) (by kernel_rfl) (by kernel_rfl) (fun _ _ _ h => h) (Or.inl ⟨by rfl, ?_⟩) (by assumption) ?_
    · intro wq hS
      go_simp
    try simp only [Act.put, List.setIfInBounds_toArray, List.set_cons_zero, List.set_cons_succ]
    refine takeD 2 53 (.pointer (some ⟨lp, 0, none⟩)) (by exact rfl) rfl (by kernel_rfl) (by kernel_rfl) (by kernel_rfl) (fun _ _ _ h => h) (Or.inl ⟨by rfl, ?_⟩) (by assumption) ?_
    · intro wq hS
      go_simp
    try simp only [Act.put, List.setIfInBounds_toArray, List.set_cons_zero, List.set_cons_succ]
    refine takeD 3 54 (.pointer (some ⟨p, 0, none⟩)) (by exact rfl) rfl (by kernel_rfl) (by kernel_rfl) (by kernel_rfl) (fun _ _ _ h => h) (Or.inl ⟨by rfl, ?_⟩) (by assumption) ?_
    · intro wq hS
      have cc := hS
      go_simp
    try simp only [Act.put, List.setIfInBounds_toArray, List.set_cons_zero, List.set_cons_succ]
    refine takeD 4 55 (.int .i64 (c : Int)) (by exact rfl) rfl (by kernel_rfl) (by kernel_rfl) (by kernel_rfl) (fun _ _ _ h => h) (Or.inl ⟨by rfl, ?_⟩) (by assumption) ?_
    · intro wq hS
      go_simp
    try simp only [Act.put, List.setIfInBounds_toArray, List.set_cons_zero, List.set_cons_succ]
    refine wpAnyH_ready (rs := [5]) (by kernel_rfl) (by simp) ?_
    refine AllReadyH.cons (by exact rfl) (fun K hK => ?_) AllReadyH.nil
    go_simp
    refine (sname_ok c w2 (by omega) (HT1.out.1.on (HD.out.mono HA1.out.lt)).pt).mono ?_
    rintro e w3 ⟨rfl, b3⟩
    have HD3 : Hid (Below w1.heap.size w1 w3) := HD.out.trans (b3.mono HD.out.size)
    go_wp2_with fail
    refine hK.out _ _ ((HL1.out.step HD3.out).cell 0 rfl) (fun hHeld => ?_)
    clear hK K b3 HD
    try simp only [Act.put, List.setIfInBounds_toArray, List.set_cons_zero, List.set_cons_succ]
    refine wpAnyH_ready (rs := [6]) (by kernel_rfl) (by simp) ?_
    refine AllReadyH.cons (by exact rfl) (fun K hK => ?_) AllReadyH.nil
    go_simp
    refine (read_any w3 B p m x (HA1.out.step HD3.out) ⟨(nmS c).toArray⟩ (by show (nmS c).toArray.size ≤ _; simp [nmS_len])).mono ?_
    rintro e w4 ⟨⟨sv, rfl, o4⟩, b4⟩
    have HD4 : Hid (Below w1.heap.size w1 w4) := HD3.out.trans (b4.mono HD3.out.size)
    have hsn : seen x (nmS c) = (0, t.2.1) := seen_on (nmS_is _) (by rw [HC.out]; exact HX.out.lk) hon
    have hsn2 : seen x (⟨(nmS c).toArray⟩ : ByteArray).data.toList = (0, t.2.1) := hsn
    rw [hsn2] at o4 ⊢
    have HSB : Hid (Bs w4 sv (segB (gk.hi c).next rs) ∧ SafeU w4 sv) := ⟨by have := o4.bs; rw [show flat ((0, t.2.1) : Nat × List (List Nat)).2 = segB gk.next rs from HX.out.byt] at this; exact this, o4.safeU⟩
    have HSV : Hid (Bs w4 sv (segB (gk.hi c).next rs)) := HSB.out.1
    clear o4 hsn hsn2
    dsimp only
    go_wp2_with fail
    refine hK.out _ _ ((HL1.out.step HD4.out).cell 0 rfl) (fun hHeld => ?_)
    clear hK K b4 HD3
    try simp only [Act.put, List.setIfInBounds_toArray, List.set_cons_zero, List.set_cons_succ]
    refine takeD 7 50 (.tuple #[sv, .int .i64 0]) (by exact rfl) rfl (by kernel_rfl) (by kernel_rfl) (by kernel_rfl) (fun _ _ _ h => h) (Or.inl ⟨by rfl, ?_⟩) (by assumption) ?_
    · intro wq hS
      go_simp
    try simp only [Act.put, List.setIfInBounds_toArray, List.set_cons_zero, List.set_cons_succ]
    refine takeD 8 58 (sv) (by exact rfl) rfl (by kernel_rfl) (by kernel_rfl) (by kernel_rfl) (fun _ _ _ h => h) (Or.inl ⟨by rfl, ?_⟩) (by assumption) ?_
    · intro wq hS
      go_simp
    try simp only [Act.put, List.setIfInBounds_toArray, List.set_cons_zero, List.set_cons_succ]
    refine takeD 9 59 (.int .i64 0) (by exact rfl) rfl (by kernel_rfl) (by kernel_rfl) (by kernel_rfl) (fun _ _ _ h => h) (Or.inl ⟨by rfl, ?_⟩) (by assumption) ?_
    · intro wq hS
      go_simp
    try simp only [Act.put, List.setIfInBounds_toArray, List.set_cons_zero, List.set_cons_succ]
    refine takeD 10 9 (sv) (by exact rfl) rfl (by kernel_rfl) (by kernel_rfl) (by kernel_rfl) (fun _ _ _ h => h) (Or.inl ⟨by rfl, ?_⟩) (by assumption) ?_
    · intro wq hS
      go_simp
    try simp only [Act.put, List.setIfInBounds_toArray, List.set_cons_zero, List.set_cons_succ]
    refine takeD 11 10 (.int .i64 0) (by exact rfl) rfl (by kernel_rfl) (by kernel_rfl) (by kernel_rfl) (fun _ _ _ h => h) (Or.inl ⟨by rfl, ?_⟩) (by assumption) ?_
    · intro wq hS
      go_simp
    try simp only [Act.put, List.setIfInBounds_toArray, List.set_cons_zero, List.set_cons_succ]
    refine wpAnyH_done (by kernel_rfl) ?_ _
    refine NoPanic.normal ?_
    clear hHeld
    have HSZ : Hid (w.heap.size ≤ w1.heap.size) := HB1.out.size
    have HL4 : Hid (Lg w4 lp p (gk.hi c)) := HL1.out.step HD4.out
    have HB4 : Hid (But (fun i => i = lp) w w4) := HB1.out.then HD4.out
    have HP4 : Hid (Pay w4 w.heap.size u6 ((ss.take k).flatten.map (·.1))) := HP1.out.step HD4.out
    have HT4 : Hid (TbB B w4) := HT1.out.2.on (HD4.out.mono HA1.out.lt)
    have HMU : Hid (1 ≤ g.per ∧ g.per ≤ 1000 ∧ (lo + k) * g.per ≤ 4000000000 ∧ gk.next = (lo + k) * g.per + 1 ∧ (c + 1) * g.per = (lo + k) * g.per + g.per ∧ (lo + k) * g.per + g.per ≤ 4000000000 ∧ rs.length ≤ g.per) := (show _ by
      have h1 := HO.out.1.per
      have h2 := HNN.out
      have h3 : (lo + k + 1) * g.per ≤ 4000000 * 1000 := Nat.mul_le_mul (by omega) h1.2
      rw [Nat.add_mul, Nat.one_mul] at h3
      have h4 : (c + 1) * g.per = (lo + k) * g.per + g.per := by rw [HC.out, Nat.add_mul (lo + k), Nat.one_mul]
      exact ⟨h1.1, h1.2, by omega, HX.out.next, h4, by omega, HX.out.len⟩)
    have HOK : Hid (gk.hi c).ok := ⟨by show 1 ≤ gk.per ∧ gk.per ≤ 1000; rw [HX.out.per.1]; exact HO.out.1.per, by show gk.low ≤ _; rw [HX.out.per.2.1]; have := HNN.out; show lo ≤ _; omega, by show c ≤ _; omega, by show gk.next ≤ _; have := HMU.out; omega⟩
    clear HL1 HB1 HP1 HT1 HD4 HA1
    go_wp2_with fail
    refine (take_ok w4 lp p B (gk.hi c) HL4.out HBB.out.1 HOK.out HX.out.last HT4.out sv rs HSB.out.1 HSB.out.2 ((lkd_hi _ _ _).2 HX.out.lkd) HX.out.rok (by show gk.next + rs.length ≤ (c + 1) * gk.per + 1; rw [HX.out.per.1]; have := HMU.out; omega) (by show gk.next + _ < _; have := HMU.out; omega) (by have := HMU.out; omega)).mono ?_
    rintro e w5 ⟨⟨u5, ra, rc, rfl, hp5⟩, hl5, hb5, hk5, hbb5⟩
    have HP5 : Hid (Pay w5 w4.heap.size u5 (rs.map (·.1))) := hp5
    have HG5 : Hid (Lg w5 lp p ((adv gk rs).hi c)) := by rw [adv_hi] at hl5; exact hl5
    have HB5 : Hid (But (fun i => i = lp) w w5) := HB4.out.trans hb5 (fun _ _ h => h)
    have HQ5 : Hid (Pay w5 w.heap.size u6 ((ss.take k).flatten.map (·.1))) := HP4.out.kel hk5
    have HLN : Hid (((ss.take k).flatten.map (·.1)).length + (rs.map (·.1)).length ≤ 1000000) := (show _ ≤ 1000000 by
      rw [List.length_map, List.length_map]
      have h1 := HMU.out
      have h2 := (adv_per ⟨g.per, lo, lo, fn, g.last, g.ended⟩ (ss.take k).flatten).2.2.2.2
      rw [← HX.out.eqk] at h2
      have h3 : gk.next = fn + (ss.take k).flatten.length := h2
      have h4 := HEQ.out
      have h5 : (lo + k) * g.per = lo * g.per + k * g.per := Nat.add_mul _ _ _
      have h6 : k * g.per ≤ 100 * 1000 := Nat.mul_le_mul (by omega) h1.2.1
      omega)
    clear hp5 hl5 hb5 hk5 hbb5 HP4 HB4 HL4 HT4 HSB
    go_upto_region 14 with (at_builtin; refine appPay (by rfl) _ _ rfl w.heap.size w4.heap.size _ _ _ _ (by rfl) (by rfl) HQ5.out HP5.out HB5.out.size HLN.out ?_; intro v6 w6 p6 b6 g6)
    have HG6 : Hid (Lg w6 lp p ((adv gk rs).hi c)) := by
      obtain ⟨ts, o6, r6⟩ := g6
      exact va_grown (HG5.out : VA _ _ _ _) o6 r6 (by decide)
    have HB6 : Hid (But (fun i => i = lp) w w6) := HB5.out.below2 b6
    have HP6 : Hid (Pay w6 w.heap.size v6 ((ss.take (k + 1)).flatten.map (·.1))) := by
      rw [HX.out.snoc, List.map_append]
      exact p6
    have HNX : Hid ((adv gk rs).next = gk.next + rs.length ∧ (adv gk rs).per = g.per) := (show _ from by
      have h1 := adv_per gk rs
      exact ⟨h1.2.2.2.2, h1.1.trans HX.out.per.1⟩)
    have HOK6 : Hid ((adv gk rs).hi c).ok := (show _ from by
      have h1 := adv_per gk rs
      refine ⟨?_, ?_, ?_, ?_⟩
      · show 1 ≤ (adv gk rs).per ∧ (adv gk rs).per ≤ 1000
        rw [HNX.out.2]; exact HO.out.1.per
      · show (adv gk rs).low ≤ _
        rw [h1.2.1, HX.out.per.2.1]
        have := HNN.out
        show lo ≤ _
        omega
      · show c ≤ _
        omega
      · show (adv gk rs).next ≤ _
        have h2 := HNX.out.1
        have h3 := HMU.out
        omega)
    clear p6 b6 g6 HG5 HP5 HB5 HQ5 HOK HLN
    obtain ⟨sa, sL, sc, rfl, hsL⟩ : ∃ a n c, sv = .slice a n c ∧ n ≤ 9223372036854775807 := by
      obtain ⟨_, a, c, e, h1, h2, _⟩ := HSV.out
      exact ⟨a, _, c, e, Nat.le_trans h1 h2⟩
    have hvc : N ≤ vc := hcap.1
    have hvc2 : vc ≤ 9223372036854775807 := hcap.2
    by_cases ck : k + 1 < N
    · have HYK : Hid (w6.cell? ⟨vb, vo + (k + 1), none⟩ = some (.int .i64 ((((adv gk rs).hi c).high : Int) + 1))) := (show _ = _ from by
        have h1 := World.cell?_of_block (a := ⟨vb, vo + (k + 1), none⟩) (HB6.out.block vb HVB.out.1 HVB.out.2)
        rw [h1, HROW.out (k + 1) ck]
        have h2 := HC.out
        show some (Value.int .i64 ((lo + (k + 1) : Nat) : Int)) = some (Value.int .i64 ((c : Int) + 1))
        rw [show ((lo + (k + 1) : Nat) : Int) = (c : Int) + 1 by omega])
      have HGO : Hid ((((adv gk rs).hi c).high + 1) * ((adv gk rs).hi c).per < ((adv gk rs).hi c).next) := (show (c + 1) * (adv gk rs).per < (adv gk rs).next from by
        rw [HNX.out.2, HNX.out.1, HX.out.full (by rw [HNN.out.1]; exact ck)]
        have := HMU.out
        omega)
      have HN3 : Hid (0 < N - (k + 1)) := (show 0 < _ by omega)
      have e1 : ¬ vc = k + 1 := by omega
      have e2 : ((k : Int) + 1 < (N : Int)) := by omega
      go_wp2_with fail
      refine (goesOn_yes w6 lp p _ HG6.out HOK6.out ra rc HGO.out vb (vo + (k + 1)) (N - (k + 1)) (vc - (k + 1)) HN3.out HYK.out).mono ?_
      rintro e w7 ⟨rfl, b7⟩
      have HL7 : Hid (Lg w7 lp p ((adv ⟨g.per, lo, lo, fn, g.last, g.ended⟩ (ss.take (k + 1)).flatten).hi c)) := (show Lg _ _ _ _ from by
        rw [HX.out.snoc, adv_app, ← HX.out.eqk]
        exact HG6.out.step b7)
      have HB7 : Hid (But (fun i => i = lp) w w7) := HB6.out.then b7
      have HP7 : Hid (Pay w7 w.heap.size v6 ((ss.take (k + 1)).flatten.map (·.1))) := HP6.out.step b7
      clear b7 HB6 HP6 HG6 HYK HGO HN3 e1 e2
      go_wp2_with fail
      go_roundw
      case rel => exact ⟨k + 1, c, ck, by go_num, HL7, HP7, HB7⟩
      case measure => simp [intOf]; omega
    · have HKN : Hid (k + 1 = N) := (show k + 1 = N by omega)
      have HGN := (show Hid _ from fun (ja : Option Addr) (jc : Nat) => (show Calls Tryz.prog 74 #[.pointer (some ⟨lp, 0, none⟩), .slice ra 0 rc, .slice ja 0 jc] w6 (fun e w' => e = .returned (.bool false) ∧ Below w6.heap.size w6 w') from by
        by_cases cf : g.per ≤ rs.length
        · refine goesOn_no1 w6 lp p _ HG6.out HOK6.out ra rc ?_ ja jc
          show (c + 1) * (adv gk rs).per < (adv gk rs).next
          rw [HNX.out.2, HNX.out.1]
          have := HMU.out
          omega
        · refine goesOn_no2 w6 lp p _ HG6.out HOK6.out ra rc ?_ ja jc
          show (adv gk rs).next ≤ (c + 1) * (adv gk rs).per
          rw [HNX.out.2, HNX.out.1]
          have := HMU.out
          omega))
      have HFL : Hid (ss.take (k + 1) = ss) := (show _ = _ from List.take_of_length_le (by rw [HNN.out.1]; omega))
      have e0 : N - (k + 1) = 0 := by omega
      have e2 : (k : Int) + 1 ≤ (N : Int) := by omega
      clear ck
      by_cases cv : vc = k + 1
      · go_wp2_with fail
        refine (HGN.out _ 0).mono ?_
        rintro e w7 ⟨rfl, b7⟩
        have HG7 := (show Hid _ from HG6.out.step b7)
        have HP7 : Hid (Pay w7 w.heap.size v6 ((ss.take (k + 1)).flatten.map (·.1))) := HP6.out.step b7
        have HB7 : Hid (But (fun i => i = lp) w w7) := HB6.out.then b7
        clear b7 HG6 HP6 HB6 HGN
        go_wp2_with fail
        refine (discard_none w7 lp _ ra rc _ 0 (by omega)).mono ?_
        rintro e w8 ⟨rfl, b8⟩
        have HL8 : Hid (Lg w8 lp p ((adv ⟨g.per, lo, lo, fn, g.last, g.ended⟩ ss.flatten).hi (lo + N - 1))) := (show Lg _ _ _ _ from by
          have h1 := HG7.out.step b8
          rw [← HFL.out, HX.out.snoc, adv_app, ← HX.out.eqk, show lo + N - 1 = c by have := HC.out; have := HKN.out; omega]
          exact h1)
        have HP8 : Hid (Pay w8 w.heap.size v6 (ss.flatten.map (·.1))) := (show Pay _ _ _ _ from by
          have h1 := HP7.out.step b8
          rw [HFL.out] at h1
          exact h1)
        have HB8 : Hid (But (fun i => i = lp) w w8) := HB7.out.then b8
        clear b8 HG7 HP7 HB7
        go_wp2_with fail
        refine bodyPost_ret (v := .tuple #[v6, .int .i64 0]) (by simp [results, Tryz.results38, go_sem, asAddr]) rfl ?_
        exact ⟨v6, rfl, HP8.out, HL8.out, HB8.out⟩
      · go_wp2_with fail
        refine (HGN.out _ (vc - (k + 1))).mono ?_
        rintro e w7 ⟨rfl, b7⟩
        have HG7 := (show Hid _ from HG6.out.step b7)
        have HP7 : Hid (Pay w7 w.heap.size v6 ((ss.take (k + 1)).flatten.map (·.1))) := HP6.out.step b7
        have HB7 : Hid (But (fun i => i = lp) w w7) := HB6.out.then b7
        clear b7 HG6 HP6 HB6 HGN
        go_wp2_with fail
        refine (discard_none w7 lp _ ra rc _ (vc - (k + 1)) (by omega)).mono ?_
        rintro e w8 ⟨rfl, b8⟩
        have HL8 : Hid (Lg w8 lp p ((adv ⟨g.per, lo, lo, fn, g.last, g.ended⟩ ss.flatten).hi (lo + N - 1))) := (show Lg _ _ _ _ from by
          have h1 := HG7.out.step b8
          rw [← HFL.out, HX.out.snoc, adv_app, ← HX.out.eqk, show lo + N - 1 = c by have := HC.out; have := HKN.out; omega]
          exact h1)
        have HP8 : Hid (Pay w8 w.heap.size v6 (ss.flatten.map (·.1))) := (show Pay _ _ _ _ from by
          have h1 := HP7.out.step b8
          rw [HFL.out] at h1
          exact h1)
        have HB8 : Hid (But (fun i => i = lp) w w8) := HB7.out.then b8
        clear b8 HG7 HP7 HB7
        go_wp2_with fail
        refine bodyPost_ret (v := .tuple #[v6, .int .i64 0]) (by simp [results, Tryz.results38, go_sem, asAddr]) rfl ?_
        exact ⟨v6, rfl, HP8.out, HL8.out, HB8.out⟩
end Go.Proofs.YtkmdegmpffgplaaGreatDoor
