/- log XXXIX: Open of a log behind whose last record something stands. -/
import Derived.Test.YtkmdegmpffgplaaGreatDoorLbo
import Derived.Test.YtkmdegmpffgplaaGreatDoorLbl
namespace Go.Proofs.YtkmdegmpffgplaaGreatDoor
open Go.RowKit Go.Maps Go.Sort Go.Shelf pk
set_option linter.unusedVariables false
set_option linter.unusedSimpArgs false
/-- the files of a log of M segments, the last of which may have no record; T stands behind its records -/
structure FlsX (fs : FS) (per : Nat) (rs : List Rc) (M : Nat) (T : List Nat) : Prop where
  file : ∀ i, i < M → ∃ t, lk fs (nmS i) = some t ∧ flat t.2.1 = segB (i * per + 1) (sgt per rs i) ++ (if i + 1 = M then T else [])
  only : ∀ k, k ≤ 99999999 → nmS k ∈ nms fs → k < M
  name : ∀ l ∈ nms fs, l = nmO .data ∨ l = nmO .one ∨ ∃ k, k ≤ 99999999 ∧ l = nmS k
  full : ∀ i, i + 1 < M → (i + 1) * per ≤ rs.length
  all : rs.length ≤ M * per
  few : M ≤ 100
theorem flsX_nums {fs : FS} {per : Nat} {rs : List Rc} {M : Nat} {T : List Nat} (h : FlsX fs per rs M T) {ns : List (List UInt8)} {xs : List Nk} (hpm : ns.Perm (nms fs)) (ho : ns.Pairwise (fun a b => a ≤ b)) (hnd : (nms fs).Nodup) (he : ns = xs.map nmO) (hx : ∀ n, Nk.seg n ∈ xs → n ≤ 99999999) :
    xs.filterMap Nk.num = (List.range M).map (0 + ·) := by
  have hb := h.few
  refine srt_eq _ _ ?_ ?_ (fun n => ?_)
  · have hnd2 : ns.Nodup := hpm.nodup_iff.2 hnd
    have h3 : ns.Pairwise (fun a b => a ≤ b ∧ a ≠ b) := ho.and hnd2
    rw [he, List.pairwise_map] at h3
    rw [List.pairwise_filterMap]
    refine List.Pairwise.imp_of_mem (fun {a b} ha hb hab c hc d hd => ?_) h3
    have e1 : a = .seg c := by cases a <;> cases hc; rfl
    have e2 : b = .seg d := by cases b <;> cases hd; rfl
    subst e1 e2
    have := nmS_le (hx c ha) (hx d hb) hab.1
    have hne : c ≠ d := fun e => hab.2 (by rw [e])
    omega
  · rw [List.pairwise_map]
    exact List.Pairwise.imp (fun h => by omega) (List.pairwise_lt_range)
  · rw [List.mem_filterMap, List.mem_map]
    constructor
    · rintro ⟨a, ha, e⟩
      have e1 : a = .seg n := by cases a <;> cases e; rfl
      subst e1
      have hin : nmS n ∈ nms fs := hpm.mem_iff.1 (by rw [he]; exact List.mem_map.2 ⟨_, ha, rfl⟩)
      exact ⟨n, List.mem_range.2 (h.only n (hx n ha) hin), Nat.zero_add n⟩
    · rintro ⟨i, hi, rfl⟩
      have hi' := List.mem_range.1 hi
      obtain ⟨t, h1, h2⟩ := h.file i hi'
      have hin : nmS i ∈ nms fs := (lk_isSome _ _).1 (by rw [h1]; rfl)
      have := hpm.mem_iff.2 hin
      rw [he] at this
      obtain ⟨a, ha, e⟩ := List.mem_map.1 this
      have := nmO_seg e (by omega) (fun j ej => hx j (by rw [← ej]; exact ha))
      exact ⟨a, ha, by rw [this, Nat.zero_add]; rfl⟩
theorem wholeT_of {x : AD} {per : Nat} {rs : List Rc} {M : Nat} {T : List Nat} (h : FlsX x.fs per rs M T) (hr : ∀ r ∈ rs, Rok r) : WholeT x per 0 ((List.range M).map (sgt per rs)) T := by
  have hat : ∀ i rs', ((List.range M).map (sgt per rs))[i]? = some rs' → i < M ∧ rs' = sgt per rs i := fun i rs' e => by
    rw [List.getElem?_map] at e
    cases h1 : (List.range M)[i]? with
    | none => rw [h1] at e; cases e
    | some j =>
      rw [h1] at e
      obtain ⟨hi, h2⟩ := List.getElem?_eq_some_iff.1 h1
      rw [List.length_range] at hi
      rw [List.getElem_range] at h2
      subst h2
      cases e
      exact ⟨hi, rfl⟩
  refine ⟨fun i rs' e => ?_, fun i rs' e hl => ?_, fun rs' hm => ?_⟩
  · obtain ⟨h1, rfl⟩ := hat i rs' e
    obtain ⟨t, h2, h3⟩ := h.file i h1
    refine ⟨t, by rw [Nat.zero_add]; exact h2, ?_⟩
    rw [h3, Nat.zero_add, List.length_map, List.length_range]
  · obtain ⟨h1, rfl⟩ := hat i rs' e
    rw [List.length_map, List.length_range] at hl
    have h2 := h.full i hl
    rw [Nat.add_mul, Nat.one_mul] at h2
    rw [sgt_len]
    omega
  · obtain ⟨i, h1, rfl⟩ := List.mem_map.1 hm
    refine ⟨by rw [sgt_len]; omega, fun r hr' => hr r ?_⟩
    unfold sgt at hr'
    exact List.mem_of_mem_drop (List.mem_of_mem_take hr')
/-- what Open leaves of the disk, and its answer -/
def ocut (x : AD) (per : Nat) (rs : List Rc) (M : Nat) (T : List Nat) : Nat × AD := dcut x (M - 1) ((segB ((M - 1) * per + 1) (sgt per rs (M - 1))).length / 32) T
set_option maxRecDepth 100000 in
set_option maxHeartbeats 4000000 in
theorem open_rest (w : World) (B p m : Nat) (x : AD) (per : Nat) (rs : List Rc) (M : Nat) (T : List Nat) (h : DA w B p m x) (hon : x.on = true) (hpt : PtB B w) (htb : TbB B w) (hF : FlsX x.fs per rs M T) (hL : Lks per 0 rs) (hR : ∀ r ∈ rs, Rok r) (hper : 1 ≤ per ∧ per ≤ 1000) (hfs : x.fs.length ≤ 100) (hMT : M = 0 → T = []) (hbad : 1 + rs.length ≤ M * per → Bad (1 + rs.length) T) (hops : x.ops ≤ 4611686018427387904) (hlft : x.left ≤ 9223372036854775807) :
    Calls Tryz.prog 12 #[.pointer (some ⟨p, 0, none⟩), .int .i64 (per : Int)] w fun e w' => DA w' B p m (ocut x per rs M T).2 ∧ Kel w w' ∧ Below B w w' ∧
      (((ocut x per rs M T).1 = 0 ∧ ∃ lp u, w.heap.size ≤ lp ∧ e = .returned (.tuple #[.pointer (some ⟨lp, 0, none⟩), u, .int .i64 0]) ∧ Lg w' lp p ((gst per 0 rs (List.replicate 32 0)).hi (M - 1)) ∧ Pay w' w.heap.size u (rs.map (·.1))) ∨
       ((ocut x per rs M T).1 ≠ 0 ∧ e = .returned (.tuple #[.pointer none, .slice none 0 0, .int .i64 ((ocut x per rs M T).1 : Nat)]))) := by
  have HDS : Hid (DA w B p m x) := h
  have HPT : Hid (PtB B w ∧ TbB B w) := ⟨hpt, htb⟩
  have HFX : Hid (FlsX x.fs per rs M T ∧ Lks per 0 rs ∧ (∀ r ∈ rs, Rok r) ∧ (1 ≤ per ∧ per ≤ 1000)) := ⟨hF, hL, hR, hper⟩
  have HB0 : Hid ((M = 0 → T = []) ∧ (1 + rs.length ≤ M * per → Bad (1 + rs.length) T) ∧ x.ops ≤ 4611686018427387904 ∧ x.left ≤ 9223372036854775807) := ⟨hMT, hbad, hops, hlft⟩
  have HON := (show Hid _ from on_any w B p m _ h)
  rw [hon] at HON
  have HNA := (show Hid _ from fun w' (k : Below w.heap.size w w') => names_any w' B p m _ (h.step k))
  have HOK : Hid (lg0 per).ok := ⟨hper, Nat.zero_le _, Nat.zero_le _, Nat.zero_le _⟩
  have HFL : Hid (x.fs.length ≤ 100) := hfs
  have HLB : Hid (B ≤ w.heap.size) := h.lt
  have h1 := hper.1
  have h2 := hper.2
  have d1 : ¬ (per : Int) < 1 := by omega
  have d2 : ¬ (1000 : Int) < (per : Int) := by omega
  obtain ⟨R, hR9⟩ : ∃ R, R = ocut x per rs M T := ⟨_, rfl⟩
  have HR9 : Hid (R = ocut x per rs M T) := hR9
  rw [← hR9]
  clear h hpt htb hF hL hR hper hfs hMT hbad hops hlft h1 h2 hR9
  go_enter Tryz.func12, Tryz.ntmps12
  go_wp2_with fail
  refine Calls.mono HON.out ?_
  rintro e w1 ⟨rfl, rfl⟩
  go_upto_region 8 with (refine bldG rfl _ _ rfl p per (by rfl) (by rfl) ?_)
  have D := (Below.refl w1.heap.size w1).alloc (Nat.le_refl _) (.cells ((lg0 per).cells p).toArray 73)
  have HD := (show Hid _ from D)
  have HG : Hid (Lg (w1.alloc (.cells ((lg0 per).cells p).toArray 73)) w1.heap.size p (lg0 per)) := va_new w1 ((lg0 per).cells p) 73
  clear D HON
  generalize w1.alloc (.cells ((lg0 per).cells p).toArray 73) = w2 at *
  obtain ⟨lp, hlp⟩ : ∃ lp, lp = w1.heap.size := ⟨_, rfl⟩
  have HLP : Hid (lp = w1.heap.size) := hlp
  rw [← hlp] at HG ⊢
  clear hlp
  go_wp2_with fail
  refine Calls.mono (HNA.out _ HD.out) ?_
  rintro e w3 ⟨v, ns, rfl, hp, _, hsr, hown, _, b3⟩
  have hpm : ns.Perm (nms x.fs) := hp hon
  obtain ⟨xs, hxs, hx9⟩ := nk_xs ns (fun l hl => HFX.out.1.name l (hpm.mem_iff.1 hl))
  have hlen : xs.length ≤ 100 := by
    have e1 := hpm.length_eq
    rw [hxs, List.length_map] at e1
    rw [e1]
    unfold nms
    rw [List.length_map]
    exact HFL.out
  have hnum := flsX_nums HFX.out.1 hpm hsr HDS.out.nodup hxs hx9
  have HNS : Hid (Sn w3 v (xs.map nmO)) := by
    have := hown.sn
    rw [hxs] at this
    exact this
  have HD3 : Hid (Below w1.heap.size w1 w3) := HD.out.trans (b3.mono HD.out.size)
  have HG3 : Hid (Lg w3 lp p (lg0 per)) := HG.out.step b3
  clear hp hown b3 HD HG HNA hpm hsr hxs
  go_wp2_with fail
  refine (numbers_ok w3 v xs HNS.out hx9 hlen).mono ?_
  rintro e w4 ⟨⟨u, rfl, o4⟩, b4⟩
  rw [hnum] at o4
  have HD4 : Hid (Below w1.heap.size w1 w4) := HD3.out.trans (b4.mono HD3.out.size)
  have HG4 : Hid (Lg w4 lp p (lg0 per)) := HG3.out.step b4
  have HLT : Hid (lp < w3.heap.size) := HG3.out.lt
  obtain ⟨ua, uc, hu, _⟩ := o4.form
  rw [List.length_map, List.length_range] at hu
  have HSL : Hid (Sl KI w4 u ((List.range M).map (0 + ·))) := o4.sl
  have HBL : Hid (∀ b o, ua = some ⟨b, o, none⟩ → b ≠ lp) := fun b o e => by
    have h1 : w3.heap.size ≤ b := o4.block b (by rw [hu, e]; rfl)
    have h2 := HLT.out
    omega
  have HDA : Hid (DA w4 B p m x) := DA.step HDS.out HD4.out
  have HPT4 : Hid (PtB B w4 ∧ TbB B w4) := ⟨HPT.out.1.on (HD4.out.mono HLB.out), HPT.out.2.on (HD4.out.mono HLB.out)⟩
  have HBL2 : Hid (B ≤ lp) := (show B ≤ lp from by rw [HLP.out]; exact HLB.out)
  clear o4 b4 HD3 HG3 hnum HNS hx9 hlen HLT
  have HFIN : Hid (Calls Tryz.prog 38 #[.pointer (some ⟨lp, 0, none⟩), u] w4 fun e w' => ∃ v, e = .returned (.tuple #[v, .int .i64 (R.1 : Nat)]) ∧ Pay w' w4.heap.size v (rs.map (·.1)) ∧ Lg w' lp p ((gst per 0 rs (List.replicate 32 0)).hi (M - 1)) ∧ DA w' B p m R.2 ∧ Kel w4 w' ∧ Below B w4 w') := by
    subst hu
    rw [HR9.out]
    rcases Nat.eq_zero_or_pos M with h0 | h0
    · have hT := HB0.out.1 h0
      have hrs : rs = [] := List.eq_nil_of_length_eq_zero (by have := HFX.out.1.all; rw [h0] at this; omega)
      subst h0
      subst hrs
      refine (read_none w4 lp p (lg0 per) HG4.out HOK.out ua uc).mono ?_
      rintro e w' ⟨rfl, h3, h4⟩
      have hk := h4.kel HG4.out
      unfold ocut
      rw [dcut_nil hT]
      refine ⟨_, rfl, ⟨[], rfl, own_nil KT _ _, fun t ht => by cases ht⟩, ?_, HDA.out.kel hk, hk.kel, h4.below HDA.out.lt (fun i hi => by have h1 : i = lp := hi; rw [h1]; exact HBL2.out)⟩
      have e1 : ({ lg0 per with high := (lg0 per).low, next := (lg0 per).low * (lg0 per).per + 1 } : LG) = (gst per 0 [] (List.replicate 32 0)).hi (0 - 1) := rfl
      rw [e1] at h3
      exact h3
    · have hfl : ((List.range M).map (sgt per rs)).flatten = rs := by
        rw [sgt_flat per HFX.out.2.2.2.1, List.take_of_length_le HFX.out.1.all]
      refine (readR_ok w4 B p m lp 0 M x (lg0 per) ((List.range M).map (sgt per rs)) HDA.out hon HG4.out HBL2.out HOK.out ⟨by simp [lg0], fun a ha => by rw [List.eq_of_mem_replicate ha]; omega⟩ HPT4.out.1 HPT4.out.2 ua uc HSL.out HBL.out (by rw [List.length_map, List.length_range]) h0 HFX.out.1.few (by have := HFX.out.1.few; omega) T (wholeT_of HFX.out.1 HFX.out.2.2.1) ?_ HB0.out.2.2.1 HB0.out.2.2.2 ?_).mono ?_
      · rw [hfl]
        show 0 * per + 1 + rs.length ≤ (0 + M) * per → Bad (0 * per + 1 + rs.length) T
        simp only [Nat.zero_mul, Nat.zero_add]
        exact HB0.out.2.1
      · rw [hfl]
        exact (lkd_lks per 0 0 _ _ rs).2 HFX.out.2.1
      · rintro e w' ⟨v, kp, rfl, hkp, h3, h4, h5, h6, h7⟩
        rw [hfl] at h3 h4
        have hk := hkp (sgt per rs (M - 1)) (by rw [List.getElem?_map, List.getElem?_range (by omega)]; rfl)
        have e9 : dcut x (0 + M - 1) kp T = ocut x per rs M T := by
          unfold ocut
          rw [hk]
          show dcut x (0 + M - 1) ((segB ((0 + (M - 1)) * per + 1) (sgt per rs (M - 1))).length / 32) T = _
          simp only [Nat.zero_add]
        rw [e9] at h5 ⊢
        refine ⟨v, rfl, h3, ?_, h5, h6, h7⟩
        rw [Nat.zero_add] at h4
        exact h4
  clear HSL HBL HBL2 HDA HOK HFL hu HPT4 HPT HFX HB0
  have hr18 : R.1 ≤ 18 := by
    rw [HR9.out]
    unfold ocut dcut
    split
    · omega
    · exact oper_le _ _
  clear HR9
  obtain ⟨cd, x9⟩ := R
  go_wp2_with fail
  refine Calls.mono HFIN.out ?_
  rintro e w5 ⟨v5, rfl, hP5, hL5, hD5, hK5, hB5⟩
  have HB5 : Hid (Below B w1 w5 ∧ Kel w1 w5) := ⟨(HD4.out.mono HLB.out).trans hB5, (Kee.kel (Kee.bel HD4.out)).trans hK5⟩
  have HL5 : Hid (Lg w5 lp p ((gst per 0 rs (List.replicate 32 0)).hi (M - 1))) := hL5
  have HDD : Hid (DA w5 B p m x9) := hD5
  have HP5 : Hid (Pay w5 w1.heap.size v5 (rs.map (·.1))) := by
    obtain ⟨ts, e1, e2, e3⟩ := hP5.ex
    exact ⟨ts, e1, e2.lower HD4.out.size, e3⟩
  have hc18 : cd ≤ 18 := hr18
  clear hP5 hL5 hB5 hD5 hK5 HFIN HG4 HD4 hr18
  dsimp only
  by_cases h0 : cd = 0
  · subst h0
    go_wp2_with fail
    refine bodyPost_ret (v := .tuple #[.pointer (some ⟨lp, 0, none⟩), v5, .int .i64 0]) (by simp [results, Tryz.results12, go_sem, asAddr]) rfl ?_
    first
      | exact ⟨HDD.out, HB5.out.2, HB5.out.1, Or.inl ⟨rfl, lp, v5, Nat.le_of_eq HLP.out.symm, rfl, HL5.out, HP5.out⟩⟩
      | exact ⟨HDD.out, HB5.out.2, HB5.out.1, lp, Nat.le_of_eq HLP.out.symm, v5, rfl, HL5.out, HP5.out⟩
  · have hz1 : ((cd : Int) == 0) = false := by simp; omega
    have hz2 : ((cd : Int) != 0) = true := by simp; omega
    have hz3 : ((cd : Int) = 0) = False := by simp; omega
    have HN0 : Hid (cd ≠ 0) := h0
    clear h0
    go_wp2_with fail
    refine bodyPost_ret (v := .tuple #[.pointer none, .slice none 0 0, .int .i64 (cd : Int)]) (by simp [results, Tryz.results12, go_sem, asAddr]) rfl ?_
    exact ⟨HDD.out, HB5.out.2, HB5.out.1, Or.inr ⟨HN0.out, rfl⟩⟩
end Go.Proofs.YtkmdegmpffgplaaGreatDoor
/- log XLI: the files of a log through a crash, in plain words. -/
namespace Go.Proofs.YtkmdegmpffgplaaGreatDoor
open Go.RowKit Go.Maps Go.Sort Go.Shelf pk
set_option linter.unusedVariables false
set_option linter.unusedSimpArgs false
theorem zf_take (ks : List Bool) (i sy j : Nat) (ss : List (List Nat)) : (zf ks i sy j ss).take sy = ss.take sy := by
  unfold zf
  refine List.ext_getElem? (fun k => ?_)
  rw [List.getElem?_take, List.getElem?_take, List.getElem?_mapIdx]
  split
  · rename_i hk
    cases ss[k]? with
    | none => rfl
    | some s => simp only [Option.map_some]; rw [if_neg (by omega)]
  · rfl
theorem zf_at (ks : List Bool) (i sy j : Nat) (ss : List (List Nat)) (k : Nat) (s : List Nat) (h : (zf ks i sy j ss)[k]? = some s) : s = [] ∨ ss[k]? = some s := by
  unfold zf at h
  rw [List.getElem?_mapIdx] at h
  cases hk : ss[k]? with
  | none => rw [hk] at h; cases h
  | some s0 =>
    rw [hk] at h
    simp only [Option.map_some, Option.some.injEq] at h
    split at h
    · exact Or.inl h.symm
    · exact Or.inr (by rw [h])
/-- all files are synced -/
def Syn (fs : FS) (M : Nat) : Prop := ∀ i t, i < M → lk fs (nmS i) = some t → t.2.2 = t.2.1.length
theorem segB_32 : ∀ (n : Nat) (rs : List Rc), ∃ a, (segB n rs).length = 32 * a
  | _, [] => ⟨0, rfl⟩
  | n, r :: rs => by
    obtain ⟨a, ha⟩ := segB_32 (n + 1) rs
    refine ⟨cn4 (r.1.length + 4 + r.2.length) + a, ?_⟩
    show (secL n r.1 r.2 ++ segB (n + 1) rs).length = _
    rw [List.length_append, ha, secL_len]
    omega
theorem flat_split {ss : List (List Nat)} {A T : List Nat} {a : Nat} (h : flat ss = A ++ T) (ha : A.length = 32 * a) : flat (ss.take a) = A ∧ flat (ss.drop a) = T ∧ a ≤ ss.length := by
  have hl := congrArg List.length h
  rw [flat_len, List.length_append, ha] at hl
  have h1 : flat (ss.take a) ++ flat (ss.drop a) = A ++ T := by rw [← flat_app, List.take_append_drop]; exact h
  have h2 := List.append_inj h1 (by rw [flat_len, List.length_take, ha]; omega)
  exact ⟨h2.1, h2.2, by omega⟩
/-- the files of a log: M segments, T behind the last records; what the records have is synced -/
structure SF (fs : FS) (K : Nat) (rs : List Rc) (M : Nat) (T : List Nat) : Prop where
  file : ∀ i, i < M → ∃ t, lk fs (nmS i) = some t ∧ flat t.2.1 = segB (i * K + 1) (sgt K rs i) ++ (if i + 1 = M then T else []) ∧ t.2.2 ≤ t.2.1.length ∧ (segB (i * K + 1) (sgt K rs i)).length ≤ 32 * t.2.2
  only : ∀ k, k ≤ 99999999 → nmS k ∈ nms fs → k < M
  name : ∀ l ∈ nms fs, ∃ k, k ≤ 99999999 ∧ l = nmS k
  top : M ≤ rs.length / K + 1
  all : rs.length ≤ M * K
  few : M ≤ 100
  tail : T ≠ [] → M = rs.length / K + 1
theorem SF.full {fs : FS} {K : Nat} {rs : List Rc} {M : Nat} {T : List Nat} (h : SF fs K rs M T) (hK : 1 ≤ K) : ∀ i, i + 1 < M → (i + 1) * K ≤ rs.length := fun i hi => by
  have h1 := h.top
  have h2 : (i + 1) * K ≤ (rs.length / K) * K := Nat.mul_le_mul_right _ (by omega)
  exact Nat.le_trans h2 (Nat.div_mul_le_self _ _)
theorem SF.x {fs : FS} {K : Nat} {rs : List Rc} {M : Nat} {T : List Nat} (h : SF fs K rs M T) (hK : 1 ≤ K) : FlsX fs K rs M T :=
  ⟨fun i hi => (h.file i hi).imp (fun t ht => ⟨ht.1, ht.2.1⟩), h.only, fun l hl => Or.inr (Or.inr (h.name l hl)), h.full hK, h.all, h.few⟩
theorem SF.syn {fs : FS} {K : Nat} {rs : List Rc} {M : Nat} (h : SF fs K rs M []) : Syn fs M := fun n t hM ht => by
  obtain ⟨t', h1, h2, h3, h4⟩ := h.file n hM
  rw [ht] at h1
  cases h1
  have h5 := congrArg List.length h2
  rw [flat_len, List.length_append] at h5
  have h6 : (if n + 1 = M then ([] : List Nat) else []).length = 0 := by split <;> rfl
  omega
theorem SF.mid {fs : FS} {K : Nat} {rs : List Rc} {M : Nat} {T : List Nat} (h : SF fs K rs M T) {n : Nat} {t : List UInt8 × List (List Nat) × Nat} (hM : n + 1 < M) (ht : lk fs (nmS n) = some t) : t.2.2 = t.2.1.length := by
  obtain ⟨t', h1, h2, h3, h4⟩ := h.file n (by omega)
  rw [ht] at h1
  cases h1
  have h5 := congrArg List.length h2
  rw [flat_len, List.length_append, if_neg (by omega)] at h5
  have : ([] : List Nat).length = 0 := rfl
  omega
/-- records and a tail behind a crash -/
theorem restart_sf {fs : FS} {K : Nat} {rs : List Rc} {M : Nat} {T : List Nat} (h : SF fs K rs M T) {ks : List Bool} {ns : List (List UInt8)} (hp : ns.Perm (nms fs)) (hnd : (nms fs).Nodup) :
    ∃ ss ss' : List (List Nat), T = flat ss ∧ ss'.length = ss.length ∧ (∀ (k : Nat) (s : List Nat), ss'[k]? = some s → s = [] ∨ ss[k]? = some s) ∧ SF (stl ks ns fs).1 K rs M (flat ss') ∧ Syn (stl ks ns fs).1 M ∧ (Syn fs M → ss' = ss) := by
  have hlk : ∀ l t, lk fs l = some t → ∃ i, lk (stl ks ns fs).1 l = some (l, zf ks i t.2.2 t.2.1.length t.2.1, t.2.1.length) := fun l t ht => lk_stl hp hnd ht
  have hnm : nms (stl ks ns fs).1 = nms fs := nms_stl ks ns fs
  have hsyn : Syn (stl ks ns fs).1 M := fun n t hM ht => by
    have hin : nmS n ∈ nms fs := by rw [← hnm]; exact (lk_isSome _ _).1 (by rw [ht]; rfl)
    obtain ⟨t0, ht0⟩ := Option.isSome_iff_exists.1 ((lk_isSome _ _).2 hin)
    obtain ⟨i, hi⟩ := hlk _ _ ht0
    rw [hi] at ht
    cases ht
    show t0.2.1.length = (zf _ _ _ _ _).length
    rw [zf_len]
  rcases Nat.eq_zero_or_pos M with h0 | h0
  · have hT : T = [] := Decidable.byContradiction (fun hT => by have h1 := h.tail hT; rw [h0] at h1; exact Nat.succ_ne_zero _ h1.symm)
    refine ⟨[], [], by rw [hT]; rfl, rfl, fun k s e => (by cases e), ⟨fun i hi => by omega, fun k hk hm => h.only k hk (by rw [← hnm]; exact hm), fun l hl => h.name l (by rw [← hnm]; exact hl), h.top, h.all, h.few, fun e => absurd rfl e⟩, hsyn, fun _ => rfl⟩
  · obtain ⟨t0, g1, g2, g3, g4⟩ := h.file (M - 1) (by omega)
    rw [if_pos (by omega)] at g2
    obtain ⟨a, ha⟩ := segB_32 ((M - 1) * K + 1) (sgt K rs (M - 1))
    obtain ⟨f1, f2, f3⟩ := flat_split g2 ha
    obtain ⟨i0, hi0⟩ := hlk _ _ g1
    have htk : (zf ks i0 t0.2.2 t0.2.1.length t0.2.1).take a = t0.2.1.take a := by
      have h1 := congrArg (List.take a) (zf_take ks i0 t0.2.2 t0.2.1.length t0.2.1)
      rw [List.take_take, List.take_take, Nat.min_eq_left (by omega)] at h1
      exact h1
    have hfl : flat (zf ks i0 t0.2.2 t0.2.1.length t0.2.1) = segB ((M - 1) * K + 1) (sgt K rs (M - 1)) ++ flat ((zf ks i0 t0.2.2 t0.2.1.length t0.2.1).drop a) := by
      rw [← f1, ← htk, ← flat_app, List.take_append_drop]
    refine ⟨t0.2.1.drop a, (zf ks i0 t0.2.2 t0.2.1.length t0.2.1).drop a, f2.symm, by rw [List.length_drop, List.length_drop, zf_len], fun k s e => ?_, ⟨fun i hi => ?_, fun k hk hm => h.only k hk (by rw [← hnm]; exact hm), fun l hl => h.name l (by rw [← hnm]; exact hl), h.top, h.all, h.few, fun e => h.tail (fun hT => e ?_)⟩, hsyn, fun hs => ?_⟩
    · rw [List.getElem?_drop] at e
      rcases zf_at _ _ _ _ _ _ _ e with e1 | e1
      · exact Or.inl e1
      · exact Or.inr (by rw [List.getElem?_drop]; exact e1)
    · rcases Nat.lt_or_ge (i + 1) M with h1 | h1
      · obtain ⟨t, q1, q2, q3, q4⟩ := h.file i hi
        obtain ⟨i1, hi1⟩ := hlk _ _ q1
        have hz := h.mid h1 q1
        rw [hz, zf_start] at hi1
        refine ⟨_, hi1, ?_, Nat.le_refl _, ?_⟩
        · rw [if_neg (by omega)] at q2 ⊢
          exact q2
        · show _ ≤ 32 * t.2.1.length
          rw [← hz]
          exact q4
      · obtain rfl : i = M - 1 := by omega
        refine ⟨_, hi0, ?_, ?_, ?_⟩
        · rw [if_pos (by omega)]
          exact hfl
        · show t0.2.1.length ≤ (zf _ _ _ _ _).length
          rw [zf_len]
          exact Nat.le_refl _
        · show _ ≤ 32 * t0.2.1.length
          omega
    · have h2 : flat (t0.2.1.drop a) = [] := by rw [f2]; exact hT
      have h3 := congrArg List.length h2
      rw [flat_len] at h3
      have h4 : 32 * (t0.2.1.drop a).length = 0 := h3
      refine List.eq_nil_of_length_eq_zero ?_
      rw [flat_len, List.length_drop, zf_len, ← List.length_drop]
      exact h4
    · have hz := hs (M - 1) t0 (by omega) g1
      rw [hz, zf_start]
/-- a record whose sectors stand as they were, or are noughts, is whole or none -/
theorem torn_or {num : Nat} {p xs : List Nat} (hx : xs.length = 32) (hp : p.length ≤ 4096) {ss ss' : List (List Nat)} (hT : secL num p xs = flat ss) (hl : ss'.length = ss.length) (hs : ∀ (k : Nat) (s : List Nat), ss'[k]? = some s → s = [] ∨ ss[k]? = some s) : flat ss' = secL num p xs ∨ (Bad num (flat ss') ∧ flat ss' ≠ []) := by
  have hC : (secL num p xs).length = 32 * cn4 (p.length + 36) := by rw [secL_len, hx]
  have hss : ss.length = cn4 (p.length + 36) := by
    have h1 := congrArg List.length hT
    rw [hC, flat_len] at h1
    omega
  have hpos : 0 < cn4 (p.length + 36) := by unfold cn4; omega
  have hne : flat ss' ≠ [] := fun e => by
    have h1 := congrArg List.length e
    rw [flat_len, hl, hss] at h1
    have h2 : 32 * cn4 (p.length + 36) = 0 := h1
    omega
  have hget : ∀ (zs : List (List Nat)) (k : Nat) (s : List Nat), zs[k]? = some s → ∀ j, j < 32 → (flat zs)[32 * k + j]? = (pad32 s)[j]? := by
    intro zs
    induction zs with
    | nil => intro k s e; cases e
    | cons z zs ih =>
      intro k s e j hj
      unfold flat
      rw [List.flatMap_cons]
      cases k with
      | zero =>
        cases e
        rw [Nat.mul_zero, Nat.zero_add, List.getElem?_append_left (by rw [pad32_len]; exact hj)]
      | succ k =>
        rw [List.getElem?_append_right (by rw [pad32_len]; omega), pad32_len, show 32 * (k + 1) + j - 32 = 32 * k + j by omega]
        exact ih k s e j hj
  by_cases hall : ∀ (k : Nat) (s : List Nat), ss'[k]? = some s → ss[k]? = some s
  · left
    have : ss' = ss := List.ext_getElem? (fun k => by
      cases h1 : ss'[k]? with
      | none =>
        have := List.getElem?_eq_none_iff.1 h1
        exact (List.getElem?_eq_none (by omega)).symm
      | some s => exact (hall k s h1).symm)
    rw [this, hT]
  · right
    refine ⟨?_, hne⟩
    simp only [Classical.not_forall] at hall
    obtain ⟨k, s, h1, h2⟩ := hall
    have hk : k < ss'.length := (List.getElem?_eq_some_iff.1 h1).1
    have hs0 : s = [] := by
      rcases hs k s h1 with h3 | h3
      · exact h3
      · exact absurd h3 h2
    subst hs0
    have hz : (flat ss').getD (32 * k) 0 = 0 := by
      rw [List.getD_eq_getElem?_getD, show 32 * k = 32 * k + 0 from rfl, hget ss' k [] h1 0 (by omega)]
      rfl
    obtain ⟨s0, hs0⟩ : ∃ s0, ss'[0]? = some s0 := ⟨_, List.getElem?_eq_getElem (by omega)⟩
    rcases hs 0 s0 hs0 with h3 | h3
    · subst h3
      refine bad_first num _ _ (flat_len _) ?_
      rw [List.getD_eq_getElem?_getD, show (0 : Nat) = 32 * 0 + 0 from rfl, hget ss' 0 [] hs0 0 (by omega)]
      decide
    · have h7 : (flat ss').getD 7 0 = cn4 (p.length + 36) := by
        rw [List.getD_eq_getElem?_getD, show (7 : Nat) = 32 * 0 + 7 from rfl, hget ss' 0 s0 hs0 7 (by omega), ← hget ss 0 s0 h3 7 (by omega), ← hT, show 32 * 0 + 7 = 7 from rfl, secL_count num p xs hx hp]
        rfl
      exact bad_of num _ k _ (flat_len _) (by omega) (by rw [h7]; omega) (by rw [hz]; decide)
end Go.Proofs.YtkmdegmpffgplaaGreatDoor
