/- log XXII: Open and Append of a log that is whole. -/
import Derived.Test.YtkmdegmpffgplaaGreatDoorLbk
import Derived.Test.YtkmdegmpffgplaaGreatDoorLbg
import Derived.Lib.ConvBytes
namespace Go.Proofs.YtkmdegmpffgplaaGreatDoor
open Go.RowKit Go.Maps Go.Sort Go.Shelf pk
set_option linter.unusedVariables false
set_option linter.unusedSimpArgs false
/-- an idle disk that holds a whole log -/
structure Dst (w : World) (B p m R o : Nat) (fs : FS) (per lo : Nat) (rs : List Rc) : Prop where
  da : DA w B p m ⟨R, o, 0, true, none, fs⟩
  pt : PtB B w
  tb : TbB B w
  fil : Fls fs per lo rs
  lks : Lks per lo rs
  rok : ∀ r ∈ rs, Rok r
  per : 1 ≤ per ∧ per ≤ 1000
  few : lo + rs.length ≤ 1000000
  emp : rs = [] → lo = 0
theorem Dst.step {w w' : World} {B p m R o : Nat} {fs : FS} {per lo : Nat} {rs : List Rc} (h : Dst w B p m R o fs per lo rs) (k : Below w.heap.size w w') : Dst w' B p m R o fs per lo rs :=
  ⟨h.da.step k, h.pt.on (k.mono h.da.lt), h.tb.on (k.mono h.da.lt), h.fil, h.lks, h.rok, h.per, h.few, h.emp⟩
theorem whole_of {x : AD} {per lo : Nat} {rs : List Rc} (hp : 1 ≤ per) (h : Fls x.fs per lo rs) (hr : ∀ r ∈ rs, Rok r) : Whole x per lo ((List.range (nsg per rs.length)).map (sgt per rs)) := by
  have hat : ∀ i rs', ((List.range (nsg per rs.length)).map (sgt per rs))[i]? = some rs' → i < nsg per rs.length ∧ rs' = sgt per rs i := fun i rs' e => by
    rw [List.getElem?_map] at e
    cases h1 : (List.range (nsg per rs.length))[i]? with
    | none => rw [h1] at e; cases e
    | some j =>
      rw [h1] at e
      obtain ⟨hi, h2⟩ := List.getElem?_eq_some_iff.1 h1
      rw [List.length_range] at hi
      rw [List.getElem_range] at h2
      subst h2
      cases e
      exact ⟨hi, rfl⟩
  refine ⟨fun i rs' e => ?_, fun i rs' e hl => ?_, fun rs' hm => ?_⟩
  · obtain ⟨h1, rfl⟩ := hat i rs' e
    exact h.file i ((nsg_lt hp).1 h1)
  · obtain ⟨h1, rfl⟩ := hat i rs' e
    rw [List.length_map, List.length_range] at hl
    have h2 := (nsg_lt hp).1 hl
    rw [Nat.add_mul, Nat.one_mul] at h2
    rw [sgt_len]
    omega
  · obtain ⟨i, h1, rfl⟩ := List.mem_map.1 hm
    refine ⟨by rw [sgt_len]; omega, fun r hr' => hr r ?_⟩
    unfold sgt at hr'
    exact List.mem_of_mem_drop (List.mem_of_mem_take hr')
theorem nsg_le {per T : Nat} (hp : 1 ≤ per) : nsg per T ≤ T := by
  rcases Nat.eq_zero_or_pos T with h | h
  · subst h
    unfold nsg
    rw [Nat.zero_add, Nat.div_eq_of_lt (by omega)]
    exact Nat.le_refl _
  · rw [nsg_pred hp h]
    have := Nat.div_le_self (T - 1) per
    omega
set_option maxRecDepth 100000 in
set_option maxHeartbeats 4000000 in
theorem open_st (w : World) (B p m R o : Nat) (fs : FS) (per lo : Nat) (rs : List Rc) (h : Dst w B p m R o fs per lo rs) (hl : fs.length ≤ 100) :
    Calls Tryz.prog 12 #[.pointer (some ⟨p, 0, none⟩), .int .i64 (per : Int)] w fun e w' => ∃ lp u, w.heap.size ≤ lp ∧ e = .returned (.tuple #[.pointer (some ⟨lp, 0, none⟩), u, .int .i64 0]) ∧ Lg w' lp p (gst per lo rs (List.replicate 32 0)) ∧ Pay w' w.heap.size u (rs.map (·.1)) ∧ Below w.heap.size w w' := by
  have HDS : Hid (Dst w B p m R o fs per lo rs) := h
  have HON := (show Hid _ from on_any w B p m _ h.da)
  have HNA := (show Hid _ from fun w' (k : Below w.heap.size w w') => names_any w' B p m _ (h.da.step k))
  have HOK : Hid (lg0 per).ok := ⟨h.per, Nat.zero_le _, Nat.zero_le _, Nat.zero_le _⟩
  have HFL : Hid (fs.length ≤ 100) := hl
  have h1 := h.per.1
  have h2 := h.per.2
  have d1 : ¬ (per : Int) < 1 := by omega
  have d2 : ¬ (1000 : Int) < (per : Int) := by omega
  clear h hl h1 h2
  go_enter Tryz.func12, Tryz.ntmps12
  go_wp2_with fail
  refine Calls.mono HON.out ?_
  rintro e w1 ⟨rfl, rfl⟩
  go_upto_region 8 with (refine bldG rfl _ _ rfl p per (by rfl) (by rfl) ?_)
  have D := (Below.refl w1.heap.size w1).alloc (Nat.le_refl _) (.cells ((lg0 per).cells p).toArray 73)
  have HD := (show Hid _ from D)
  have HG : Hid (Lg (w1.alloc (.cells ((lg0 per).cells p).toArray 73)) w1.heap.size p (lg0 per)) := va_new w1 ((lg0 per).cells p) 73
  clear D HON
  generalize w1.alloc (.cells ((lg0 per).cells p).toArray 73) = w2 at *
  obtain ⟨lp, hlp⟩ : ∃ lp, lp = w1.heap.size := ⟨_, rfl⟩
  have HLP : Hid (lp = w1.heap.size) := hlp
  rw [← hlp] at HG ⊢
  clear hlp
  go_wp2_with fail
  refine Calls.mono (HNA.out _ HD.out) ?_
  rintro e w3 ⟨v, ns, rfl, hp, _, hsr, hown, _, b3⟩
  have hpm : ns.Perm (nms fs) := hp (by simp)
  obtain ⟨xs, hxs, hx9⟩ := nk_xs ns (fun l hl => HDS.out.fil.name l (hpm.mem_iff.1 hl))
  have hlen : xs.length ≤ 100 := by
    have e1 := hpm.length_eq
    rw [hxs, List.length_map] at e1
    rw [e1]
    unfold nms
    rw [List.length_map]
    exact HFL.out
  have hnum := fil_nums HDS.out.per.1 HDS.out.fil (by have := HDS.out.few; have := nsg_le (T := rs.length) HDS.out.per.1; omega) hpm hsr HDS.out.da.nodup hxs hx9
  have HNS : Hid (Sn w3 v (xs.map nmO)) := by
    have := hown.sn
    rw [hxs] at this
    exact this
  have HD3 : Hid (Below w1.heap.size w1 w3) := HD.out.trans (b3.mono HD.out.size)
  have HG3 : Hid (Lg w3 lp p (lg0 per)) := HG.out.step b3
  have HNUM : Hid (nsg per rs.length ≤ 100) := (show _ ≤ 100 by
    have e1 := congrArg List.length hnum
    rw [List.length_map, List.length_range] at e1
    rw [← e1]
    exact Nat.le_trans (List.length_filterMap_le _ _) hlen)
  clear hp hown b3 HD HG HNA hpm hsr hxs
  go_wp2_with fail
  refine (numbers_ok w3 v xs HNS.out hx9 hlen).mono ?_
  rintro e w4 ⟨⟨u, rfl, o4⟩, b4⟩
  rw [hnum] at o4
  have HD4 : Hid (Below w1.heap.size w1 w4) := HD3.out.trans (b4.mono HD3.out.size)
  have HG4 : Hid (Lg w4 lp p (lg0 per)) := HG3.out.step b4
  have HLT : Hid (lp < w3.heap.size) := HG3.out.lt
  obtain ⟨ua, uc, hu, _⟩ := o4.form
  rw [List.length_map, List.length_range] at hu
  have HSL : Hid (Sl KI w4 u ((List.range (nsg per rs.length)).map (lo + ·))) := o4.sl
  have HBL : Hid (∀ b o, ua = some ⟨b, o, none⟩ → b ≠ lp) := fun b o e => by
    have h1 : w3.heap.size ≤ b := o4.block b (by rw [hu, e]; rfl)
    have h2 := HLT.out
    omega
  have HDA : Hid (Dst w4 B p m R o fs per lo rs) := HDS.out.step HD4.out
  have HBL2 : Hid (B ≤ lp) := (show B ≤ lp by rw [HLP.out]; exact HDS.out.da.lt)
  clear o4 b4 HD3 HG3 hnum HNS hx9 hlen HLT
  have HFIN : Hid (Calls Tryz.prog 38 #[.pointer (some ⟨lp, 0, none⟩), u] w4 fun e w' => ∃ v, e = .returned (.tuple #[v, .int .i64 0]) ∧ Pay w' w4.heap.size v (rs.map (·.1)) ∧ Lg w' lp p (gst per lo rs (List.replicate 32 0)) ∧ But (fun i => i = lp) w4 w') := by
    subst hu
    rcases Nat.eq_zero_or_pos (nsg per rs.length) with h0 | h0
    · have hrs : rs = [] := by
        cases rs with
        | nil => rfl
        | cons r rs => rw [nsg_pred HDA.out.per.1 (by simp)] at h0; exact absurd h0 (Nat.succ_ne_zero _)
      have hlo := HDA.out.emp hrs
      subst hrs
      subst hlo
      rw [h0]
      refine (read_none w4 lp p (lg0 per) HG4.out HOK.out ua uc).mono ?_
      rintro e w' ⟨rfl, h3, h4⟩
      refine ⟨_, rfl, ⟨[], rfl, own_nil KT _ _, fun t ht => by cases ht⟩, ?_, h4⟩
      have e1 : ({ lg0 per with high := (lg0 per).low, next := (lg0 per).low * (lg0 per).per + 1 } : LG) = gst per 0 [] (List.replicate 32 0) := by
        show (⟨per, 0, 0, 0 * per + 1, List.replicate 32 0, false⟩ : LG) = ⟨per, 0, 0 + (0 - 1) / per, 0 * per + 1, List.replicate 32 0, false⟩
        rw [Nat.zero_sub, Nat.zero_div]
      rw [e1] at h3
      exact h3
    · refine (readL_ok w4 B p m lp lo (nsg per rs.length) _ (lg0 per) ((List.range (nsg per rs.length)).map (sgt per rs)) HDA.out.da rfl HG4.out HBL2.out HOK.out ⟨by simp [lg0], fun a ha => by rw [List.eq_of_mem_replicate ha]; omega⟩ HDA.out.pt HDA.out.tb ua uc HSL.out HBL.out (by rw [List.length_map, List.length_range]) h0 HNUM.out (by have := HDA.out.few; have := HNUM.out; omega) (whole_of HDA.out.per.1 HDA.out.fil HDA.out.rok) ?_).mono ?_
      · rw [sgt_all per HDA.out.per.1]
        exact (lkd_lks per lo lo _ _ rs).2 HDA.out.lks
      · rintro e w' ⟨v, rfl, h3, h4, h5⟩
        rw [sgt_all per HDA.out.per.1] at h3 h4
        refine ⟨v, rfl, h3, ?_, h5⟩
        have hT : 0 < rs.length := by
          rcases Nat.eq_zero_or_pos rs.length with hT | hT
          · have := nsg_le (T := rs.length) HDA.out.per.1; omega
          · exact hT
        have e1 : lo + nsg per rs.length - 1 = lo + (rs.length - 1) / per := by rw [nsg_pred HDA.out.per.1 hT]; exact Nat.add_sub_cancel _ 1
        rw [e1] at h4
        exact h4
  clear HSL HBL HBL2 HDA HOK HNUM HFL hu
  go_wp2_with fail
  refine Calls.mono HFIN.out ?_
  rintro e w5 ⟨v5, rfl, hP5, hL5, hB5⟩
  have HB5 : Hid (Below w1.heap.size w1 w5) := HD4.out.trans (hB5.below HD4.out.size (fun i hi => by have h1 : i = lp := hi; have h2 := HLP.out; omega))
  have HL5 := (show Hid _ from hL5)
  have HP5 : Hid (Pay w5 w1.heap.size v5 (rs.map (·.1))) := by
    obtain ⟨ts, e1, e2, e3⟩ := hP5.ex
    exact ⟨ts, e1, e2.lower HD4.out.size, e3⟩
  clear hP5 hL5 hB5 HFIN HG4 HD4
  go_wp2_with fail
  refine bodyPost_ret (v := .tuple #[.pointer (some ⟨lp, 0, none⟩), v5, .int .i64 0]) (by simp [results, Tryz.results12, go_sem, asAddr]) rfl ?_
  exact ⟨lp, v5, Nat.le_of_eq HLP.out.symm, rfl, HL5.out, HP5.out, HB5.out⟩
/-- the record that an Append makes -/
def mkR (per lo : Nat) (rs : List Rc) (l0 pl : List Nat) : Rc := (pl, chn (gst per lo rs l0).ahd pl)
theorem mkR_2 (per lo : Nat) (rs : List Rc) (l0 pl : List Nat) : (mkR per lo rs l0 pl).2 = chn (gst per lo rs l0).ahd pl := by simp only [mkR]
theorem mkR_ok {per lo : Nat} {rs : List Rc} {l0 pl : List Nat} (hb : By pl) (h0 : 0 < pl.length) (hl : pl.length ≤ 4096) : Rok (mkR per lo rs l0 pl) := by
  have h2 := mkR_2 per lo rs l0 pl
  have h1 : (mkR per lo rs l0 pl).1 = pl := by simp only [mkR]
  generalize mkR per lo rs l0 pl = r at h1 h2
  exact ⟨by rw [h1]; exact hb, by rw [h1]; exact h0, by rw [h1]; exact hl, by rw [h2]; exact chn_by _ _, by rw [h2]; exact chn_len _ _⟩
/-- the files behind an Append -/
def afs (fs : FS) (per lo : Nat) (rs : List Rc) (r : Rc) : FS := rfs fs (lo + rs.length / per) (secL (lo * per + 1 + rs.length) r.1 r.2)
/-- is there room for it? -/
def room (R : Nat) (fs : FS) (per lo : Nat) (rs : List Rc) (pl : List Nat) : Bool := fitA R fs (nmS (lo + rs.length / per)) (cn4 (pl.length + 36))
theorem cnt_sec (num : Nat) (pl xs : List Nat) (h : xs.length = 32) : cnt (secL num pl xs).length = cn4 (pl.length + 36) := by
  rw [secL_len, h]
  unfold cnt
  rw [show pl.length + 4 + 32 = pl.length + 36 by omega]
  omega
theorem append_st (w : World) (B p m R o : Nat) (fs : FS) (per lo lp : Nat) (rs : List Rc) (l0 : List Nat) (h : Dst w B p m R o fs per lo rs) (hg : Lg w lp p (gst per lo rs l0)) (hl0 : l0.length = 32 ∧ By l0) (hB : B ≤ lp) (v : Value) (pl : List Nat) (hp : Bs w v pl) (hs : SafeL w v) (h0 : 0 < pl.length) (hl : pl.length ≤ 4096) (hops : o ≤ 4611686018427387000) (hfew : lo + rs.length < 1000000) (hroom : room R fs per lo rs pl = true) :
    Calls Tryz.prog 9 #[.pointer (some ⟨lp, 0, none⟩), v] w fun r w' => r = .returned (.tuple #[.int .i64 ((lo * per + 1 + rs.length : Nat) : Int), .int .i64 0]) ∧ Dst w' B p m R (o + 1 + 1) (afs fs per lo rs (mkR per lo rs l0 pl)) per lo (rs ++ [mkR per lo rs l0 pl]) ∧ Lg w' lp p (gst per lo (rs ++ [mkR per lo rs l0 pl]) l0) ∧ Kel w w' ∧ Below B w w' := by
  have hpr := h.per
  have hfw := h.few
  have hd := Nat.div_le_self rs.length per
  have hsg := gst_sgm per lo rs l0 hpr.1
  have hnx := gst_next per lo rs l0
  have hmu : lo * per + rs.length ≤ 2000000000 := by
    have h1 : lo * per ≤ 1000000 * 1000 := Nat.mul_le_mul (by omega) hpr.2
    omega
  have hok : (gst per lo rs l0).ok := ⟨by rw [gst_per]; exact hpr, by rw [gst_low]; omega, by
    show lo + (rs.length - 1) / per ≤ _
    have := Nat.div_le_self (rs.length - 1) per
    omega, by rw [hnx]; omega⟩
  have hgl : (gst per lo rs l0).last.length = 32 ∧ By (gst per lo rs l0).last := adv_last ⟨per, lo, lo, lo * per + 1, l0, false⟩ rs hl0 h.rok
  have hw := wrL_idle R o fs (gst per lo rs l0) pl (chn (gst per lo rs l0).ahd pl) (by
    rw [cnt_sec _ _ _ (chn_len _ _), hsg]
    exact hroom)
  refine (lappend_ok w B p m lp _ (gst per lo rs l0) h.da hg hB hok hgl (gst_ended _ _ _ _) (by rw [hnx]; omega) (by rw [hsg]; omega) (by rw [hnx]; omega) h.pt h.tb v pl hp hs h0 hl hops (by show 0 ≤ _; omega)).mono ?_
  rintro e w' ⟨hk, hb, hd', hc⟩
  rw [hw] at hd' hc
  rcases hc with ⟨_, rfl, hg'⟩ | ⟨hn, _⟩
  · refine ⟨by rw [hnx], ⟨?_, h.pt.on hb, h.tb.on hb, fil_app hpr.1 h.fil _ (by omega), lks_app h.lks pl _ l0 rfl, fun r hr => ?_, hpr, by rw [List.length_append, List.length_singleton]; omega, fun e => by simp at e⟩, ?_, hk, hb⟩
    · have e1 : (0, (⟨R, o + 1 + 1, 0, true, none, rfs fs (sgm (gst per lo rs l0)) (secL (gst per lo rs l0).next pl (chn (gst per lo rs l0).ahd pl))⟩ : AD), ({ gst per lo rs l0 with high := sgm (gst per lo rs l0) } : LG)).2.1 = (⟨R, o + 1 + 1, 0, true, none, afs fs per lo rs (mkR per lo rs l0 pl)⟩ : AD) := by
        unfold afs mkR
        rw [hsg, hnx]
      rw [e1] at hd'
      exact hd'
    · rcases List.mem_append.1 hr with hr | hr
      · exact h.rok r hr
      · rw [List.mem_singleton] at hr
        subst hr
        exact mkR_ok hp.byte h0 hl
    · rw [gst_app per lo rs l0 _ hpr.1, mkR_2]
      exact hg'
  · exact absurd rfl hn
end Go.Proofs.YtkmdegmpffgplaaGreatDoor
/- log XXIV: the bytes of a text; states of a log that is new. -/
namespace Go.Proofs.YtkmdegmpffgplaaGreatDoor
open Go.RowKit Go.Maps Go.Sort Go.Shelf pk
set_option linter.unusedVariables false
set_option linter.unusedSimpArgs false
theorem bel_bytes (w : World) (e : TypeId) (s : ByteArray) : Below w.heap.size w (Go.Lib.bytesWorld w e s) :=
  ⟨rfl, rfl, rfl, by rw [Go.Lib.bytesWorld_size]; omega, fun k hk => Go.Lib.bytesWorld_at_old w e s k hk⟩
/-- []byte(s) of a text of one letter -/
theorem conv_s (w : World) (x : UInt8) : ∃ (cp : Nat) (W : World), (convert 9 22 (.string ⟨#[x]⟩)).run Tryz.prog w = .ok (.slice (some ⟨w.heap.size, 0, none⟩) 1 cp) W ∧ Bs W (.slice (some ⟨w.heap.size, 0, none⟩) 1 cp) [x.toNat] ∧ SafeL W (.slice (some ⟨w.heap.size, 0, none⟩) 1 cp) ∧ Below w.heap.size w W := by
  have hs : (⟨#[x]⟩ : ByteArray).size = 1 := rfl
  have hg := grownCap_ge w 1 0 5
  have hm := grownCap_le_maxLen w 1 0 5 (by unfold maxLen; omega)
  have hx : x.toNat < 256 := x.toNat_lt
  refine ⟨grownCap w 1 0 5, Go.Lib.bytesWorld w 5 ⟨#[x]⟩, ?_, ⟨fun y hy => ?_, ?_⟩, ?_, bel_bytes _ _ _⟩
  · have := Go.Lib.run_convert_string_bytes (P := Tryz.prog) w 9 22 5 ⟨#[x]⟩ Tryz.underlying9 Tryz.underlying22 Tryz.underlying5
    rw [hs] at this
    exact this
  · have e : y = x.toNat := by simpa using hy
    rw [e]
    exact hx
  · refine ⟨_, _, rfl, hg, by unfold maxLen at hm; omega, fun h => (by cases h), fun _ => ⟨w.heap.size, 0, rfl, by rw [Go.Lib.bytesWorld_size]; omega, fun k hk => ?_⟩⟩
    have e : k = 0 := by simp at hk; omega
    subst e
    have := Go.Lib.bytesWorld_cell w 5 ⟨#[x]⟩ 0 (by rw [hs]; omega)
    rw [Nat.zero_add, this]
    rfl
  · intro b off n c e
    cases e
    exact ⟨_, _, _, Go.Lib.bytesWorld_at_new w _ _, by unfold Dt; decide, by decide⟩
/-- a new disk holds a log without records -/
theorem dst_new {w : World} {B p m R : Nat} (h : DA w B p m ⟨R, 0, 0, true, none, []⟩) (hp : PtB B w) (ht : TbB B w) (per : Nat) (h1 : 1 ≤ per ∧ per ≤ 1000) : Dst w B p m R 0 [] per 0 [] :=
  ⟨h, hp, ht, ⟨fun i hi => (by simp at hi), fun k _ hk => (by simp [nms] at hk), fun l hl => (by simp [nms] at hl)⟩, trivial, fun r hr => (by cases hr), h1, by simp, fun _ => rfl⟩
theorem room_of {R : Nat} {fs : FS} {per lo : Nat} {rs : List Rc} {pl : List Nat} (h1 : fs.length < 64) (h2 : cn4 (pl.length + 36) + totA fs ≤ R) : room R fs per lo rs pl = true := fitA_of (Or.inr (by omega)) h2
theorem len_afs (fs : FS) (per lo : Nat) (rs : List Rc) (r : Rc) : (afs fs per lo rs r).length ≤ fs.length + 1 := by
  have h : (nms (afs fs per lo rs r)).length ≤ (nms fs).length + 1 := by
    unfold afs rfs
    rw [sync_fs, nms_map _ _ (fun t => by split <;> rfl), nms_apd]
    split
    · omega
    · simp
  unfold nms at h
  simpa using h
theorem tot_afs (fs : FS) (per lo : Nat) (rs : List Rc) (r : Rc) (hr : r.2.length = 32) : totA (afs fs per lo rs r) ≤ totA fs + cn4 (r.1.length + 36) := by
  unfold afs
  refine Nat.le_trans (tot_rfs _ _ _) ?_
  rw [parts_len, cnt_sec _ _ _ hr]
  exact Nat.le_refl _
end Go.Proofs.YtkmdegmpffgplaaGreatDoor
