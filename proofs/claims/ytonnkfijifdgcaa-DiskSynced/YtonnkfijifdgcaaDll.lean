/- disk XXXVII: the walk of DiskSynced. -/
import Derived.Test.YtonnkfijifdgcaaDlj
import Derived.Deep.DeepCutAuto
import Derived.Deep.CutBlock
namespace Go.Proofs.Ytonnkfijifdgcaa
open Go.RowKit Go.Maps Go.Sort Go.Shelf pk
set_option linter.unusedVariables false
set_option linter.unusedSimpArgs false

theorem nodup_len {α : Type} [DecidableEq α] : ∀ (l L : List α), l.Nodup → (∀ x ∈ l, x ∈ L) → l.length ≤ L.length
  | [], L, _, _ => Nat.zero_le _
  | a :: l, L, hp, hs => by
    obtain ⟨h1, h2⟩ := List.nodup_cons.1 hp
    have h3 := nodup_len l (L.filter (fun x => decide (x ≠ a))) h2 (fun x hx => List.mem_filter.2 ⟨hs x (List.mem_cons_of_mem _ hx), decide_eq_true (fun e => h1 (e ▸ hx))⟩)
    have h4 : (L.filter (fun x => decide (x ≠ a))).length < L.length := List.length_filter_lt_length_iff_exists.2 ⟨a, hs a (List.mem_cons_self ..), by simp⟩
    simp only [List.length_cons]
    omega
/-- files a and b at most, and so many sectors -/
def GS (fs : FS) (N : Nat) : Prop := (∀ l ∈ nms fs, l ∈ ([[97], [98]] : List (List UInt8))) ∧ totA fs ≤ N
theorem GS.len {fs : FS} {N : Nat} (h : GS fs N) (hn : (nms fs).Nodup) : fs.length ≠ 64 := by
  have h1 := nodup_len _ _ hn h.1
  have h2 : (nms fs).length = fs.length := by simp [nms]
  simp at h1
  omega
theorem GS.mono {fs : FS} {N M : Nat} (h : GS fs N) (k : N ≤ M) : GS fs M := ⟨h.1, Nat.le_trans h.2 k⟩
theorem GS.app {fs : FS} {N : Nat} (h : GS fs (7 * N)) {l : List UInt8} (hl : l ∈ ([[97], [98]] : List (List UInt8))) {ps : List (List Nat)} (hp : ps.length ≤ 7) : GS (apd fs l ps) (7 * (N + 1)) := by
  refine ⟨fun x hx => ?_, by rw [tot_apd]; have := h.2; omega⟩
  rw [nms_apd] at hx
  split at hx
  · exact h.1 x hx
  · rcases List.mem_append.1 hx with hx | hx
    · exact h.1 x hx
    · rw [List.mem_singleton.1 hx]; exact hl
theorem GS.map {fs : FS} {N : Nat} (h : GS fs N) (g : List UInt8 × List (List Nat) × Nat → List UInt8 × List (List Nat) × Nat) (h1 : ∀ t, (g t).1 = t.1) (h2 : ∀ t, (g t).2.1.length ≤ t.2.1.length) : GS (fs.map g) N :=
  ⟨by rw [nms_map fs g h1]; exact h.1, Nat.le_trans (tot_map_le fs g h2) h.2⟩
theorem GS.sync {fs : FS} {N : Nat} (h : GS fs N) (a b : List UInt8) (n : Nat) : GS (doOp ⟨1, a, b, n⟩ fs) N := h.map _ (fun t => by split <;> rfl) (fun t => by split <;> simp)
theorem Bl.step {w w' : World} {v : Value} {ks : List Bool} (h : Bl w v ks) (k : Below w.heap.size w w') : Bl w' v ks := (h.sl.step k).bl
theorem OpIn.step {w w' : World} {o : OpD} (h : OpIn w o) (k : Below w.heap.size w w') : OpIn w' o := ⟨h.k, h.p.step k, h.f.step k, h.no, h.n⟩
theorem tot_mem {fs : FS} {t : List UInt8 × List (List Nat) × Nat} (h : t ∈ fs) : t.2.1.length ≤ totA fs := by
  induction fs with
  | nil => cases h
  | cons a fs ih =>
    simp only [totA]
    rcases List.mem_cons.1 h with rfl | h
    · omega
    · have := ih h; omega
theorem zf_take (ks : List Bool) (i sy j : Nat) (ss : List (List Nat)) : (zf ks i sy j ss).take sy = ss.take sy := by
  unfold zf
  refine List.ext_getElem? (fun k => ?_)
  rw [List.getElem?_take, List.getElem?_take, List.getElem?_mapIdx]
  split
  · rename_i hk
    cases ss[k]? with
    | none => rfl
    | some s => simp only [Option.map_some]; rw [if_neg (by omega)]
  · rfl
theorem zf_or (ks : List Bool) (i sy j : Nat) (ss : List (List Nat)) (k : Nat) (h : k < (zf ks i sy j ss).length) (h2 : k < ss.length) : (zf ks i sy j ss)[k] = ss[k] ∨ (zf ks i sy j ss)[k] = [] := by
  have e : (zf ks i sy j ss)[k]? = some (if sy ≤ k ∧ k < j ∧ ks.getD (i + (k - sy)) false = false then [] else ss[k]) := by
    unfold zf
    rw [List.getElem?_mapIdx, List.getElem?_eq_getElem h2]
    rfl
  rw [List.getElem?_eq_getElem h] at e
  have e2 := Option.some.inj e
  rw [e2]
  split
  · exact .inr rfl
  · exact .inl rfl
theorem bs_mid {w : World} {b off n c : Nat} {bs : List Nat} (h : Bs w (.slice (some ⟨b, off, none⟩) n c) bs) (i : Nat) (hi : i + 32 ≤ bs.length) : Bs w (.slice (some ⟨b, off + i, none⟩) 32 (c - i)) ((bs.drop i).take 32) := by
  obtain ⟨hby, a, c', e, h1, h2, h3, h4⟩ := h
  cases e
  have hl : ((bs.drop i).take 32).length = 32 := by simp; omega
  refine ⟨(hby.drop _).take _, some ⟨b, off + i, none⟩, c - i, by rw [hl], by rw [hl]; omega, by omega, fun e => (by cases e), fun h0 => ?_⟩
  obtain ⟨b', off', e', hb, hx⟩ := h4 (by omega)
  cases e'
  refine ⟨b, off + i, rfl, hb, fun k hk => ?_⟩
  rw [hl] at hk
  rw [Nat.add_assoc, hx (i + k) (by omega), bt_take _ _ _ hk, bt_drop]
theorem flat_mid (ss : List (List Nat)) : ∀ (j : Nat) (h : j < ss.length), ((flat ss).drop (32 * j)).take 32 = pad32 ss[j] := by
  induction ss with
  | nil => intro j h; cases h
  | cons s ss ih =>
    intro j h
    cases j with
    | zero =>
      show ((pad32 s ++ flat ss).drop 0).take 32 = pad32 s
      rw [List.drop_zero, List.take_left' (pad32_len s)]
    | succ j =>
      have hj : j < ss.length := by simpa using h
      show ((pad32 s ++ flat ss).drop (32 * (j + 1))).take 32 = pad32 (ss[j]'hj)
      rw [show 32 * (j + 1) = 32 * j + (pad32 s).length by rw [pad32_len]; omega, List.drop_append, List.drop_eq_nil_of_le (by omega), Nat.add_sub_cancel, List.nil_append]
      exact ih j hj
theorem wrap_small (x : Int) (h1 : 0 ≤ x) (h2 : x ≤ 9223372036854775807) : IntKind.i64.wrap x = x := by
  unfold IntKind.wrap
  simp [IntKind.signed, IntKind.bits]
  omega
theorem infoO7 : (Try.prog.info? 36).map (·.size) = some 7 := by kernel_rfl
set_option maxRecDepth 100000 in
set_option maxHeartbeats 8000000 in
theorem synced_walk (v : Value) (os : List OpD) (u : Value) (cs : List Nat) (dn : Bool) (kv : Value) (ks : List Bool) (w : World) (hb : Sl KO w v os) (hos : ∀ o ∈ os, OpIn w o ∧ OpSz 140737488351232 o) (hl : os.length ≤ 140737488351232) (hu : Bs w u cs) (hl2 : cs.length ≤ 140737488351232) (hk : Bl w kv ks) (hkl : ks.length ≤ 140737488351232) (hno : ∀ n c, kv = .slice none n c → c = 0) :
    Calls Try.prog 4 #[v, u, .agg #[.bool dn, kv]] w fun e w' => e = .returned (.bool true) ∧ Below w.heap.size w w' := by
  have HSL := (show Hid _ from hb)
  have HOS : Hid (∀ o ∈ os, OpIn w o ∧ OpSz 140737488351232 o) := hos
  have HQ := (show Hid _ from hu)
  have HKS : Hid (Bl w kv ks) := hk
  have HNO : Hid (∀ n c, kv = .slice none n c → c = 0) := hno
  obtain ⟨oa, oc, rfl, hoc1, hoc2, _⟩ := hb.form
  obtain ⟨hby2, a', c', rfl, hc1', hc2', hno2, hli'⟩ := hu
  obtain ⟨ka, kc, hkv, _⟩ := hk.form
  clear hb hos hno2 hli' hby2 hk hno
  generalize hN : os.length = N at *
  have HN := (show Hid _ from hN)
  clear hN
  have FB := (show Hid _ from va_new w [.bool dn, kv] 34)
  have B0 := (show Hid _ from (Below.refl w.heap.size w).alloc (Nat.le_refl _) (.cells #[.bool dn, kv] 34))
  subst hkv
  generalize hML : cs.length = len' at *
  have HML := (show Hid _ from hML)
  clear hML
  go_enter Try.func4, Try.ntmps4
  go_wp2_with (go_at_call 9; refine (awake_ok _).mono ?_; rintro e w1 ⟨rfl, b1⟩)
  have HB1 : Hid (Below w.heap.size w w1) := B0.out.trans (b1.mono B0.out.size)
  have FB1 : Hid (VA w1 w.heap.size [.bool dn, .slice ka ks.length kc] 34) := FB.out.step b1
  have HSW : Hid (w.heap.size ≤ w1.heap.size) := HB1.out.size
  clear b1 FB B0
  refine (new_any 5000 w1 (by omega) (by omega)).mono ?_
  rintro e w2 ⟨p, m, rfl, hA2, b2⟩
  have HA2 : Hid (DA w2 w1.heap.size p m ⟨5000, 0, 0, true, none, []⟩) := hA2
  have HB2 : Hid (Below w1.heap.size w1 w2) := b2
  have HALL : Hid (∀ w', Below w1.heap.size w2 w' → Below w.heap.size w w') := fun w' h => HB1.out.trans ((HB2.out.trans h).mono HSW.out)
  have FB2 : Hid (∀ w', Below w1.heap.size w2 w' → VA w' w.heap.size [.bool dn, .slice ka ks.length kc] 34) := fun w' h => FB1.out.step (HB2.out.trans h)
  clear hA2 b2 FB1
  generalize w1.heap.size = B at *
  have HBW2 : Hid (B ≤ w2.heap.size) := HA2.out.lt
  unfold ptr
  go_upto_block 0 with fail
  go_cut [] (fun wx => ∃ (n : Nat) (fs : FS), n ≤ 60 ∧ Hid (DA wx B p m ⟨5000, n, 0, true, none, fs⟩) ∧ Hid (GS fs 420) ∧ Hid (Below B w2 wx))
  case first =>
    go_wp2_with fail
    go_loopw [33] (fun i wr => ∃ (k n : Nat) (fs : FS), k ≤ N ∧ k ≤ 60 ∧ n ≤ k ∧ i = .int .i64 (k : Int) ∧ Hid (DA wr B p m ⟨5000, n, 0, true, none, fs⟩) ∧ Hid (GS fs (7 * k)) ∧ Hid (Below B w2 wr)) (fun i _ => N - (intOf i).toNat)
    case atStart => exact ⟨0, 0, [], Nat.zero_le _, Nat.zero_le _, Nat.le_refl _, rfl, HA2.out, ⟨fun l hl => (by cases hl), Nat.le_refl _⟩, Below.refl _ _⟩
    case round =>
      obtain ⟨k, n, fs, hk, hk60, hnk, rfl, HA, HG, HBE⟩ := hrel
      by_cases hlt : k < N
      · have dk : (k : Int) < (N : Int) := by omega
        obtain ⟨o, ho⟩ : ∃ o, os[k]? = some o := ⟨_, List.getElem?_eq_getElem (by rw [HN.out]; exact hlt)⟩
        obtain ⟨b, off, rfl, hbl, hcell⟩ := (HSL.out.step (HALL.out wr HBE.out)).at k o ho
        have HCL : Hid (∀ j u, o.cells[j]? = some u → wr.cell? ⟨b, off + k * 7 + j, none⟩ = some u) := hcell
        have hmem := List.mem_of_getElem? ho
        have HOI : Hid (∀ w', Below B w2 w' → OpIn w' o) := fun w' h => ((HOS.out o hmem).1).step (HALL.out w' h)
        have hsz := (HOS.out o hmem).2
        have hk256 := (HOI.out wr HBE.out).k
        obtain ⟨_, _, _, hpe, hp1, hp2, _⟩ := (HOI.out wr HBE.out).p
        cases hpe
        have hsz1 := hsz.1
        clear hcell hmem ho hsz
        obtain ⟨ok, oaa, obb, opa, opc, obs, on, odn, oka, okc, oks⟩ := o
        dsimp only at hk256 hp1 hp2 hsz1
        obtain ⟨L, hL⟩ : ∃ L, L = min obs.length 200 := ⟨_, rfl⟩
        have HXP : Hid (∀ w', Below B w2 w' → Bs w' (.slice opa L opc) (obs.take L)) := fun w' h => ((HOI.out w' h).p).cut L (by show L ≤ obs.length; omega)
        have HXL : Hid ((obs.take L).length = L) := (show (obs.take L).length = L by rw [List.length_take]; omega)
        generalize hxs : obs.take L = xs at HXP HXL
        clear hxs
        unfold OpD.cells at HCL
        dsimp only at HCL
        generalize hln : obs.length = ln at *
        generalize hkn : oks.length = kn at *
        have hmin : ∀ w', (Builtin.min_ #[3, 3] 3 #[.int .i64 (ln : Int), .int .i64 200]).run Try.prog w' = .ok (.int .i64 (L : Int)) w' := fun w' => cut_min w' ln 200 L (by omega) hL
        have d1 : (L : Int) ≤ (ln : Int) := by omega
        have d2 : (L : Int) ≤ (opc : Int) := by omega
        have d3 : L ≤ 200 := by omega
        clear hln hkn hL
        by_cases h60 : 60 ≤ k
        · have d60 : (60 : Int) ≤ (k : Int) := by omega
          go_wp2_with (refine wpList_load_mid rfl 36 _ rfl b (off + k * 7) (by rfl) _ _ HCL.out Try.underlying36 rfl infoO7 ?_)
          go_meet
          have b7 := (Below.refl wr.heap.size wr).alloc (Nat.le_refl _) (.cells #[.int .u8 (ok : Int), .string oaa, .string obb, .slice opa ln opc, .int .i64 on, .bool odn, .slice oka kn okc] 36)
          exact ⟨n, fs, by omega, HA.out.step b7, HG.out.mono (by omega), HBE.out.trans (b7.mono HA.out.lt)⟩
        · have d60 : (k : Int) < 60 := by omega
          have b7 := (Below.refl wr.heap.size wr).alloc (Nat.le_refl _) (.cells #[.int .u8 (ok : Int), .string oaa, .string obb, .slice opa L opc, .int .i64 on, .bool odn, .slice oka kn okc] 36)
          have HA7 : Hid (DA _ B p m ⟨5000, n, 0, true, none, fs⟩) := HA.out.step b7
          have HB7 : Hid (Below B w2 _) := HBE.out.trans (b7.mono HA.out.lt)
          clear b7
          rcases (by omega : ok % 3 = 0 ∨ ok % 3 = 1 ∨ ok % 3 = 2) with hm | hm | hm
          · have dm : (ok : Int) % 3 = 0 := by omega
            go_wp2_with (refine wpList_load_mid rfl 36 _ rfl b (off + k * 7) (by rfl) _ _ HCL.out Try.underlying36 rfl infoO7 ?_)
            refine (twin_ok _ xs _ (HXP.out _ HB7.out) (by rw [HXL.out]; omega)).mono ?_
            rintro e w8 ⟨⟨u8, rfl, O8⟩, b8⟩
            have HA8 : Hid (DA w8 B p m ⟨5000, n, 0, true, none, fs⟩) := HA7.out.step b8
            have HO8 := (show Hid _ from O8)
            have HB8 : Hid (Below B w2 w8) := HB7.out.trans (b8.mono HA7.out.lt)
            have E := (show Hid _ from show apnd ⟨5000, n, 0, true, none, fs⟩ [97] xs = (0, ⟨5000, n + 1, 0, true, none, apd fs [97] (parts xs)⟩) from apnd_idle rfl (fitA_of (.inr (HG.out.len HA.out.nodup)) (by have := HG.out.2; rw [HXL.out]; unfold cnt; omega)))
            clear O8 b8
            go_wp2_with fail
            refine (append_any w8 B p m _ HA8.out ⟨#[97]⟩ (by decide) u8 xs HO8.out.bs HO8.out.safe (by rw [HXL.out]; omega) (by show n ≤ _; omega) (by show 0 ≤ _; omega)).mono ?_
            rintro e w9 ⟨he, h9⟩
            rw [show (⟨#[97]⟩ : ByteArray).data.toList = [97] from rfl, E.out] at he h9
            obtain rfl : e = .returned (.int .i64 0) := he
            have HA9 : Hid (DA w9 B p m ⟨5000, n + 1, 0, true, none, apd fs [97] (parts xs)⟩) := h9.1
            have HB9 : Hid (Below B w2 w9) := HB8.out.trans h9.2.2
            have HG9 : Hid (GS (apd fs [97] (parts xs)) (7 * (k + 1))) := HG.out.app (by decide) (by rw [parts_len, HXL.out]; unfold cnt; omega)
            clear h9
            go_wp2_with fail
            go_roundw
            case rel => exact ⟨k + 1, n + 1, _, by omega, by omega, by omega, by simp, HA9.out, HG9.out, HB9.out⟩
            case measure => simp [intOf]; omega
          · have dm : (ok : Int) % 3 = 1 := by omega
            go_wp2_with (refine wpList_load_mid rfl 36 _ rfl b (off + k * 7) (by rfl) _ _ HCL.out Try.underlying36 rfl infoO7 ?_)
            have E : Hid (∃ n' fs', (oper ⟨5000, n, 0, true, none, fs⟩ ⟨1, [97], [], 0⟩).2 = ⟨5000, n', 0, true, none, fs'⟩ ∧ n' ≤ n + 1 ∧ GS fs' (7 * (k + 1))) := by
              cases hf : lk fs [97] with
              | none => exact ⟨n, fs, by rw [oper_none rfl (by simp) hf], by omega, HG.out.mono (by omega)⟩
              | some t => exact ⟨n + 1, _, by rw [oper_idle rfl (by simp) (by show (lk fs [97]).isSome = true; rw [hf]; rfl)], by omega, (HG.out.sync _ _ _).mono (by omega)⟩
            refine (sync_any _ B p m _ HA7.out ⟨#[97]⟩ (by decide) (by show n ≤ _; omega) (by show 0 ≤ _; omega)).mono ?_
            rintro e w9 ⟨he, h9⟩
            rw [show (⟨#[97]⟩ : ByteArray).data.toList = [97] from rfl] at he h9
            generalize (oper ⟨5000, n, 0, true, none, fs⟩ ⟨1, [97], [], 0⟩) = r9 at he h9 E
            subst he
            obtain ⟨n', fs', e1, e2, e3⟩ := E.out
            rw [e1] at h9
            have HA9 : Hid (DA w9 B p m ⟨5000, n', 0, true, none, fs'⟩) := h9.1
            have HB9 : Hid (Below B w2 w9) := HB7.out.trans h9.2.2
            have HG9 : Hid (GS fs' (7 * (k + 1))) := e3
            clear h9 e1 e3
            go_wp2_with fail
            go_roundw
            case rel => exact ⟨k + 1, n', fs', by omega, by omega, by omega, by simp, HA9.out, HG9.out, HB9.out⟩
            case measure => simp [intOf]; omega
          · have dm : (ok : Int) % 3 = 2 := by omega
            go_wp2_with (refine wpList_load_mid rfl 36 _ rfl b (off + k * 7) (by rfl) _ _ HCL.out Try.underlying36 rfl infoO7 ?_)
            refine (twin_ok _ xs _ (HXP.out _ HB7.out) (by rw [HXL.out]; omega)).mono ?_
            rintro e w8 ⟨⟨u8, rfl, O8⟩, b8⟩
            have HA8 : Hid (DA w8 B p m ⟨5000, n, 0, true, none, fs⟩) := HA7.out.step b8
            have HO8 := (show Hid _ from O8)
            have HB8 : Hid (Below B w2 w8) := HB7.out.trans (b8.mono HA7.out.lt)
            have E := (show Hid _ from show apnd ⟨5000, n, 0, true, none, fs⟩ [98] xs = (0, ⟨5000, n + 1, 0, true, none, apd fs [98] (parts xs)⟩) from apnd_idle rfl (fitA_of (.inr (HG.out.len HA.out.nodup)) (by have := HG.out.2; rw [HXL.out]; unfold cnt; omega)))
            clear O8 b8
            go_wp2_with fail
            refine (append_any w8 B p m _ HA8.out ⟨#[98]⟩ (by decide) u8 xs HO8.out.bs HO8.out.safe (by rw [HXL.out]; omega) (by show n ≤ _; omega) (by show 0 ≤ _; omega)).mono ?_
            rintro e w9 ⟨he, h9⟩
            rw [show (⟨#[98]⟩ : ByteArray).data.toList = [98] from rfl, E.out] at he h9
            obtain rfl : e = .returned (.int .i64 0) := he
            have HA9 : Hid (DA w9 B p m ⟨5000, n + 1, 0, true, none, apd fs [98] (parts xs)⟩) := h9.1
            have HB9 : Hid (Below B w2 w9) := HB8.out.trans h9.2.2
            have HG9 : Hid (GS (apd fs [98] (parts xs)) (7 * (k + 1))) := HG.out.app (by decide) (by rw [parts_len, HXL.out]; unfold cnt; omega)
            clear h9
            go_wp2_with fail
            go_roundw
            case rel => exact ⟨k + 1, n + 1, _, by omega, by omega, by omega, by simp, HA9.out, HG9.out, HB9.out⟩
            case measure => simp [intOf]; omega
      · obtain rfl : k = N := by omega
        go_wp2_with fail
        go_meet
        exact ⟨n, fs, by omega, HA.out, HG.out.mono (by omega), HBE.out⟩
  case rest =>
    obtain ⟨n, fs, hn60, HA, HG, HBE⟩ := hcut
    obtain ⟨M, hM⟩ : ∃ M, M = min len' 300 := ⟨_, rfl⟩
    have hmin2 : ∀ w', (Builtin.min_ #[3, 3] 3 #[.int .i64 (len' : Int), .int .i64 300]).run Try.prog w' = .ok (.int .i64 (M : Int)) w' := fun w' => cut_min w' len' 300 M (by omega) hM
    have d1 : (M : Int) ≤ (len' : Int) := by omega
    have d2 : (M : Int) ≤ (c' : Int) := by omega
    have d3 : M ≤ 300 := by omega
    have HYP : Hid (∀ w', Below B w2 w' → Bs w' (.slice a' M c') (cs.take M)) := fun w' h => (HQ.out.step (HALL.out w' h)).cut M (by rw [HML.out]; omega)
    have HYL : Hid ((cs.take M).length = M) := (show (cs.take M).length = M by rw [List.length_take, HML.out]; omega)
    generalize hys : cs.take M = ys at HYP HYL
    clear hys hM
    obtain ⟨fs1, hfs1⟩ : ∃ fs1, fs1 = apd fs [97] (parts []) := ⟨_, rfl⟩
    obtain ⟨ss, sy, hlk1⟩ : ∃ ss sy, lk fs1 [97] = some ([97], ss, sy) := by
      rw [hfs1, lk_apd_same]
      cases hh : lk fs [97] with
      | none => exact ⟨_, _, rfl⟩
      | some t => exact ⟨t.2.1 ++ parts [], t.2.2, by show some (t.1, _, _) = _; rw [(lk_nm hh).1]⟩
    have ht1 : totA fs1 ≤ 420 := by rw [hfs1, tot_apd]; have := HG.out.2; show totA fs + 0 ≤ 420; omega
    have hg1 : ∀ l ∈ nms fs1, l ∈ ([[97], [98]] : List (List UInt8)) := (show GS fs1 420 from by
      have h1 := HG.out.app (N := 60) (l := [97]) (by decide) (ps := parts []) (by decide)
      rw [hfs1]
      exact ⟨h1.1, by rw [tot_apd]; have := HG.out.2; show totA fs + 0 ≤ 420; omega⟩).1
    have E1 := (show Hid _ from show apnd ⟨5000, n, 0, true, none, fs⟩ [97] [] = (0, ⟨5000, n + 1, 0, true, none, fs1⟩) from by rw [apnd_idle rfl (fitA_of (.inr (HG.out.len HA.out.nodup)) (by have := HG.out.2; show 0 + totA fs ≤ 5000; omega)), hfs1])
    clear hfs1
    go_wp2_with fail
    refine (append_any wc B p m _ HA.out ⟨#[97]⟩ (by decide) _ [] (bs_nil wc) (bl_nil wc).2 (by simp) (by show n ≤ _; omega) (by show 0 ≤ _; omega)).mono ?_
    rintro e w4 ⟨he, h4⟩
    rw [show (⟨#[97]⟩ : ByteArray).data.toList = [97] from rfl, E1.out] at he h4
    obtain rfl : e = .returned (.int .i64 0) := he
    replace HA : Hid (DA w4 B p m ⟨5000, n + 1, 0, true, none, fs1⟩) := h4.1
    replace HBE : Hid (Below B w2 w4) := HBE.out.trans h4.2.2
    clear h4 hmin2 E1
    obtain ⟨fs2, hfs2⟩ : ∃ fs2, fs2 = doOp ⟨1, [97], [], 0⟩ fs1 := ⟨_, rfl⟩
    have hlk2 : lk fs2 [97] = some ([97], ss, ss.length) := by rw [hfs2, sync_fs, lk_map _ _ (fun t => by split <;> rfl), hlk1]; simp
    have ht2 : totA fs2 ≤ 420 := by rw [hfs2, sync_fs]; exact Nat.le_trans (tot_map_le _ _ (fun t => by split <;> simp)) ht1
    have hg2 : ∀ l ∈ nms fs2, l ∈ ([[97], [98]] : List (List UInt8)) := by rw [hfs2, sync_fs, nms_map _ _ (fun t => by split <;> rfl)]; exact hg1
    have E2 := (show Hid _ from show oper ⟨5000, n + 1, 0, true, none, fs1⟩ ⟨1, [97], [], 0⟩ = (0, ⟨5000, n + 2, 0, true, none, fs2⟩) from by rw [oper_idle rfl (by simp) (by show (lk fs1 [97]).isSome = true; rw [hlk1]; rfl), hfs2])
    clear hfs2 hlk1 ht1 hg1
    go_wp2_with fail
    refine (sync_any w4 B p m _ HA.out ⟨#[97]⟩ (by decide) (by show n + 1 ≤ _; omega) (by show 0 ≤ _; omega)).mono ?_
    rintro e w5 ⟨he, h5⟩
    rw [show (⟨#[97]⟩ : ByteArray).data.toList = [97] from rfl, E2.out] at he h5
    obtain rfl : e = .returned (.int .i64 0) := he
    replace HA : Hid (DA w5 B p m ⟨5000, n + 2, 0, true, none, fs2⟩) := h5.1
    replace HBE : Hid (Below B w2 w5) := HBE.out.trans h5.2.2
    have E3 := (show Hid _ from show seen ⟨5000, n + 2, 0, true, none, fs2⟩ [97] = (0, ss) from seen_on (t := ([97], ss, ss.length)) rfl hlk2 rfl)
    clear h5 E2
    go_wp2_with fail
    refine (read_any w5 B p m _ HA.out ⟨#[97]⟩ (by decide)).mono ?_
    rintro e w6 ⟨⟨u6, he, O6⟩, b6⟩
    rw [show (⟨#[97]⟩ : ByteArray).data.toList = [97] from rfl, E3.out] at he O6
    obtain rfl : e = .returned (.tuple #[u6, .int .i64 0]) := he
    replace HA : Hid (DA w6 B p m ⟨5000, n + 2, 0, true, none, fs2⟩) := HA.out.step b6
    replace HBE : Hid (Below B w2 w6) := HBE.out.trans (b6.mono (Nat.le_trans HBW2.out HBE.out.size))
    have HS : Hid (OwnB w6 w5.heap.size u6 (flat ss)) := O6
    obtain ⟨SN, hSN⟩ : ∃ SN, SN = 32 * ss.length := ⟨_, rfl⟩
    have HSN : Hid ((flat ss).length = SN) := (show (flat ss).length = SN by rw [flat_len, hSN])
    have HSN2 : Hid (SN = 32 * ss.length) := hSN
    clear hSN
    obtain ⟨_, a6, c6, hu6, hc61, hc62, _⟩ := O6.bs
    rw [HSN.out] at hu6 hc61
    subst hu6
    clear O6 b6 E3
    go_wp2_with fail
    refine (twin_ok _ ys w6 (HYP.out w6 HBE.out) (by rw [HYL.out]; omega)).mono ?_
    rintro e w7 ⟨⟨u7, rfl, O7⟩, b7⟩
    replace HA : Hid (DA w7 B p m ⟨5000, n + 2, 0, true, none, fs2⟩) := HA.out.step b7
    replace HBE : Hid (Below B w2 w7) := HBE.out.trans (b7.mono (Nat.le_trans HBW2.out HBE.out.size))
    replace HS : Hid (OwnB w7 w5.heap.size (.slice a6 SN c6) (flat ss)) := HS.out.kee (Kee.bel b7)
    have HO7 := (show Hid _ from O7)
    obtain ⟨fs3, hfs3⟩ : ∃ fs3, fs3 = apd fs2 [97] (parts ys) := ⟨_, rfl⟩
    obtain ⟨tt, htt⟩ : ∃ tt, tt = ss ++ parts ys := ⟨_, rfl⟩
    have HTT : Hid (tt = ss ++ parts ys) := htt
    clear htt
    have hlk3 : lk fs3 [97] = some ([97], tt, ss.length) := by rw [hfs3, lk_apd_same, hlk2, HTT.out]
    have hcy : cnt M ≤ 10 := by unfold cnt; omega
    have ht3 : totA fs3 ≤ 430 := by rw [hfs3, tot_apd, parts_len, HYL.out]; omega
    have hg3 : ∀ l ∈ nms fs3, l ∈ ([[97], [98]] : List (List UInt8)) := fun l hl => by
      rw [hfs3, nms_apd] at hl
      split at hl
      · exact hg2 l hl
      · rcases List.mem_append.1 hl with hl | hl
        · exact hg2 l hl
        · rw [List.mem_singleton.1 hl]; decide
    have hlen2 : fs2.length ≠ 64 := GS.len (N := 420) ⟨hg2, ht2⟩ HA.out.nodup
    have E4 := (show Hid _ from show apnd ⟨5000, n + 2, 0, true, none, fs2⟩ [97] ys = (0, ⟨5000, n + 3, 0, true, none, fs3⟩) from by rw [apnd_idle rfl (fitA_of (.inr hlen2) (by rw [HYL.out]; omega)), hfs3])
    clear hfs3 O7 b7 hlk2 hg2
    go_wp2_with fail
    refine (append_any w7 B p m _ HA.out ⟨#[97]⟩ (by decide) u7 ys HO7.out.bs HO7.out.safe (by rw [HYL.out]; omega) (by show n + 2 ≤ _; omega) (by show 0 ≤ _; omega)).mono ?_
    rintro e w8 ⟨he, h8⟩
    rw [show (⟨#[97]⟩ : ByteArray).data.toList = [97] from rfl, E4.out] at he h8
    obtain rfl : e = .returned (.int .i64 0) := he
    replace HA : Hid (DA w8 B p m ⟨5000, n + 3, 0, true, none, fs3⟩) := h8.1
    replace HBE : Hid (Below B w2 w8) := HBE.out.trans h8.2.2
    replace HS : Hid (OwnB w8 w5.heap.size (.slice a6 SN c6) (flat ss)) := HS.out.kee h8.2.1
    have E5 := (show Hid _ from show seen ⟨5000, n + 3, 0, true, none, fs3⟩ [97] = (0, tt) from seen_on (t := ([97], tt, ss.length)) rfl hlk3 rfl)
    clear h8 E4 HO7
    go_wp2_with fail
    refine (read_any w8 B p m _ HA.out ⟨#[97]⟩ (by decide)).mono ?_
    rintro e w9 ⟨⟨u9', he, O9⟩, b9⟩
    rw [show (⟨#[97]⟩ : ByteArray).data.toList = [97] from rfl, E5.out] at he O9
    obtain rfl : e = .returned (.tuple #[u9', .int .i64 0]) := he
    replace HA : Hid (DA w9 B p m ⟨5000, n + 3, 0, true, none, fs3⟩) := HA.out.step b9
    replace HBE : Hid (Below B w2 w9) := HBE.out.trans (b9.mono (Nat.le_trans HBW2.out HBE.out.size))
    replace HS : Hid (OwnB w9 w5.heap.size (.slice a6 SN c6) (flat ss)) := HS.out.kee (Kee.bel b9)
    have HT : Hid (OwnB w9 w8.heap.size u9' (flat tt)) := O9
    obtain ⟨TN, hTN⟩ : ∃ TN, TN = 32 * tt.length := ⟨_, rfl⟩
    have HTN : Hid ((flat tt).length = TN) := (show (flat tt).length = TN by rw [flat_len, hTN])
    have HTN2 : Hid (TN = 32 * tt.length) := hTN
    clear hTN
    obtain ⟨_, a9, c9, hu9, hc91, hc92, _⟩ := O9.bs
    rw [HTN.out] at hu9 hc91
    subst hu9
    have hST : SN ≤ TN := by rw [HSN2.out, HTN2.out, HTT.out, List.length_append]; omega
    have hTS : tt.length ≤ 430 := by
      obtain ⟨h1, h2⟩ := lk_nm hlk3
      have := tot_mem h2
      have e : ([97], tt, ss.length).2.1.length = tt.length := rfl
      omega
    clear O9 b9 E5
    go_wp2_with fail
    refine (arm_any w9 B p m _ HA.out 1 (by omega)).mono ?_
    rintro e wa ⟨rfl, ha⟩
    replace HA : Hid (DA wa B p m ⟨5000, n + 3, 1, true, none, fs3⟩) := ha.1
    replace HBE : Hid (Below B w2 wa) := HBE.out.trans ha.2.2
    replace HS : Hid (OwnB wa w5.heap.size (.slice a6 SN c6) (flat ss)) := HS.out.kee ha.2.1
    replace HT : Hid (OwnB wa w8.heap.size (.slice a9 TN c9) (flat tt)) := HT.out.kee ha.2.1
    clear ha
    obtain ⟨fs4, hfs4⟩ : ∃ fs4, fs4 = apd fs3 [98] (parts []) := ⟨_, rfl⟩
    have hlk4 : lk fs4 [97] = some ([97], tt, ss.length) := by rw [hfs4, lk_apd_other _ _ _ _ (by decide), hlk3]
    have hlen3 : fs3.length ≠ 64 := GS.len (N := 430) ⟨hg3, ht3⟩ HA.out.nodup
    have E6 := (show Hid _ from show apnd ⟨5000, n + 3, 1, true, none, fs3⟩ [98] [] = (18, ⟨5000, n + 4, 0, false, none, fs4⟩) from by rw [apnd_last rfl (fitA_of (.inr hlen3) (by show 0 + totA fs3 ≤ 5000; omega)), hfs4])
    clear hfs4 hlk3 hg3
    go_wp2_with fail
    refine (append_any wa B p m _ HA.out ⟨#[98]⟩ (by decide) _ [] (bs_nil wa) (bl_nil wa).2 (by simp) (by show n + 3 ≤ _; omega) (by show 1 ≤ _; omega)).mono ?_
    rintro e wb ⟨he, hb⟩
    rw [show (⟨#[98]⟩ : ByteArray).data.toList = [98] from rfl, E6.out] at he hb
    obtain rfl : e = .returned (.int .i64 18) := he
    replace HA : Hid (DA wb B p m ⟨5000, n + 4, 0, false, none, fs4⟩) := hb.1
    replace HBE : Hid (Below B w2 wb) := HBE.out.trans hb.2.2
    replace HS : Hid (OwnB wb w5.heap.size (.slice a6 SN c6) (flat ss)) := HS.out.kee hb.2.1
    replace HT : Hid (OwnB wb w8.heap.size (.slice a9 TN c9) (flat tt)) := HT.out.kee hb.2.1
    have HKb : Hid (Bl wb (.slice ka ks.length kc) ks) := HKS.out.step (HALL.out wb HBE.out)
    have FBb := FB2.out wb HBE.out
    have y0 := FBb.cell 0 (v := .bool dn) rfl
    have y1 := FBb.cell 1 (v := .slice ka ks.length kc) rfl
    clear hb E6 FBb
    go_wp2_with fail
    refine (fate_ok wb dn _ ks HKb.out (by omega) HNO.out).mono ?_
    rintro e we ⟨⟨ue, rfl, hBl, hSf⟩, be⟩
    replace HA : Hid (DA we B p m ⟨5000, n + 4, 0, false, none, fs4⟩) := HA.out.step be
    replace HBE : Hid (Below B w2 we) := HBE.out.trans (be.mono (Nat.le_trans HBW2.out HBE.out.size))
    replace HS : Hid (OwnB we w5.heap.size (.slice a6 SN c6) (flat ss)) := HS.out.kee (Kee.bel be)
    replace HT : Hid (OwnB we w8.heap.size (.slice a9 TN c9) (flat tt)) := HT.out.kee (Kee.bel be)
    have HBL := (show Hid _ from hBl)
    have HSF : Hid (Safe we ue) := hSf
    clear hBl hSf be y0 y1
    go_wp2_with fail
    refine (restart_off we B p m _ HA.out dn ue ks HBL.out (by omega) HSF.out rfl).mono ?_
    rintro e wf ⟨rfl, ns, hpm, hsr, hf⟩
    have hdo : doUnd ⟨5000, n + 4, 0, false, none, fs4⟩ dn = fs4 := by cases dn <;> rfl
    rw [hdo] at hpm hf
    replace HS : Hid (OwnB wf w5.heap.size (.slice a6 SN c6) (flat ss)) := HS.out.kee hf.2.1
    replace HT : Hid (OwnB wf w8.heap.size (.slice a9 TN c9) (flat tt)) := HT.out.kee hf.2.1
    replace HBE : Hid (Below B w2 wf) := HBE.out.trans hf.2.2
    obtain ⟨fl, hfl⟩ := lk_stl (ks := ks) hpm HA.out.nodup hlk4
    obtain ⟨zz, hzz⟩ : ∃ zz, zz = zf ks fl ss.length tt.length tt := ⟨_, rfl⟩
    have hfl' : lk (stl ks ns fs4).1 [97] = some ([97], zz, tt.length) := by rw [hfl, hzz]
    obtain ⟨fs5, hfs5⟩ : ∃ fs5, fs5 = (stl ks ns fs4).1 := ⟨_, rfl⟩
    rw [← hfs5] at hfl' hf
    replace HA : Hid (DA wf B p m ⟨5000, n + 4, 0, true, none, fs5⟩) := hf.1
    have E7 := (show Hid _ from show seen ⟨5000, n + 4, 0, true, none, fs5⟩ [97] = (0, zz) from seen_on (t := ([97], zz, tt.length)) rfl hfl' rfl)
    have HZ0 : Hid (zz.take ss.length = ss) := (show zz.take ss.length = ss by rw [hzz, zf_take, HTT.out, List.take_left])
    have HZ1 : Hid (∀ j (h : j < zz.length) (h2 : j < tt.length), zz[j] = tt[j] ∨ zz[j] = []) := fun j h h2 => by
      subst hzz
      exact zf_or _ _ _ _ _ j h h2
    have HZL : Hid (zz.length = tt.length) := (show zz.length = tt.length by rw [hzz, zf_len])
    clear hf hpm hsr hdo hfl hfl' hfs5 hzz HBL HSF hlk4
    go_wp2_with fail
    refine (read_any wf B p m _ HA.out ⟨#[97]⟩ (by decide)).mono ?_
    rintro e wg ⟨⟨ug, he, Og⟩, bg⟩
    rw [show (⟨#[97]⟩ : ByteArray).data.toList = [97] from rfl, E7.out] at he Og
    obtain rfl : e = .returned (.tuple #[ug, .int .i64 0]) := he
    replace HBE : Hid (Below B w2 wg) := HBE.out.trans (bg.mono (Nat.le_trans HBW2.out HBE.out.size))
    replace HS : Hid (Bs wg (.slice a6 SN c6) (flat ss)) := HS.out.bs.step bg
    replace HT : Hid (Bs wg (.slice a9 TN c9) (flat tt)) := HT.out.bs.step bg
    have HZ : Hid (Bs wg ug (flat zz)) := Og.bs
    have hzn : (flat zz).length = TN := by rw [flat_len, HZL.out, HTN2.out]
    obtain ⟨_, ag, cg, hug, hcg1, hcg2, _⟩ := Og.bs
    rw [hzn] at hug hcg1
    subst hug
    have HZN := (show Hid _ from hzn)
    have HBg : Hid (B ≤ wg.heap.size) := Nat.le_trans HA.out.lt bg.size
    have d5 : (SN : Int) ≤ (TN : Int) := by omega
    have d6 : (SN : Int) ≤ (cg : Int) := by omega
    have dST : decide (TN < SN) = false := by simp; omega
    have dST2 : (TN < SN) = False := by simp; omega
    have hTB : TN ≤ 13760 := by have := HTN2.out; omega
    have HCUT : Hid (Bs wg (.slice ag SN cg) ((flat zz).take SN)) := HZ.out.cut SN (by rw [HZN.out]; exact hST)
    have HEQ : Hid ((flat zz).take SN = flat ss) := (show (flat zz).take SN = flat ss by rw [HSN2.out, ← flat_take, HZ0.out])
    clear Og bg E7 hzn HZ0 HA
    go_wp2_with fail
    refine (same_ok _ _ _ _ _ HCUT.out HS.out).mono ?_
    rintro e wh ⟨rfl, bh⟩
    rw [decide_eq_true HEQ.out]
    have HBEg : Hid (Below B w2 wg) := HBE.out
    clear HBE
    have HBG : Hid (Below wg.heap.size wg wh) := bh
    clear bh HS HCUT HEQ
    have h32 : ∀ w : World, (Instr.makeSlice 31 (.int .i64 32) (.int .i64 32)).run Try.prog w = .ok (.slice (some ⟨w.heap.size, 0, none⟩) 32 32) (w.alloc (.cells (cl (List.replicate 32 0)).toArray 5)) := fun w => mk_by 32 (by omega) w
    generalize h32c : (cl (List.replicate 32 0)).toArray = c32 at h32
    have H32 := (show Hid _ from h32c)
    clear h32c
    go_wp2_with fail
    go_loopw [18] (fun i wr => ∃ ii q : Nat, i = .int .i64 (ii : Int) ∧ Hid (ii = SN + 32 * q) ∧ ii ≤ TN ∧ Hid (Below wg.heap.size wg wr)) (fun i _ => (TN - intOf i).toNat)
    case atStart => exact ⟨SN, 0, rfl, (show SN = SN + 32 * 0 by omega), hST, HBG.out⟩
    case round =>
      obtain ⟨ii, q, rfl, HI, hiT, HBr⟩ := hrel
      by_cases hlt : ii < TN
      · have di : (ii : Int) < (TN : Int) := by omega
        have hj : ss.length + q < tt.length := by have := HI.out; have := HSN2.out; have := HTN2.out; omega
        have hi32 : ii + 32 ≤ TN := by have := HI.out; have := HSN2.out; have := HTN2.out; omega
        have hiE : ii = 32 * (ss.length + q) := by have := HI.out; have := HSN2.out; omega
        have hjz : ss.length + q < zz.length := by rw [HZL.out]; exact hj
        obtain ⟨bz, oz, hag⟩ : ∃ bz oz, ag = some ⟨bz, oz, none⟩ := by
          obtain ⟨_, _, _, e, _, _, _, h4⟩ := HZ.out
          cases e
          obtain ⟨b, o, e2, _⟩ := h4 (by rw [HZN.out]; omega)
          exact ⟨b, o, e2⟩
        obtain ⟨bt9, ot9, ha9⟩ : ∃ bz oz, a9 = some ⟨bz, oz, none⟩ := by
          obtain ⟨_, _, _, e, _, _, _, h4⟩ := HT.out
          cases e
          obtain ⟨b, o, e2, _⟩ := h4 (by rw [HTN.out]; omega)
          exact ⟨b, o, e2⟩
        subst hag ha9
        have HZj : Hid (Bs wr (.slice (some ⟨bz, oz + ii, none⟩) 32 (cg - ii)) (pad32 zz[ss.length + q])) := by
          have := bs_mid (HZ.out.step HBr.out) ii (by rw [HZN.out]; exact hi32)
          rw [hiE, flat_mid zz _ hjz] at this
          rw [hiE]
          exact this
        have HTj : Hid (Bs wr (.slice (some ⟨bt9, ot9 + ii, none⟩) 32 (c9 - ii)) (pad32 tt[ss.length + q])) := by
          have := bs_mid (HT.out.step HBr.out) ii (by rw [HTN.out]; exact hi32)
          rw [hiE, flat_mid tt _ hj] at this
          rw [hiE]
          exact this
        have hOR := HZ1.out _ hjz hj
        generalize zz[ss.length + q] = zj at HZj hOR
        generalize tt[ss.length + q] = tj at HTj hOR
        have d7 : (ii : Int) + 32 ≤ (TN : Int) := by omega
        have d8 : (ii : Int) + 32 ≤ (cg : Int) := by omega
        have d9 : (ii : Int) + 32 ≤ (c9 : Int) := by omega
        have d10 : (ii : Int) ≤ 13760 := by omega
        obtain ⟨i2, hi2⟩ : ∃ i2, i2 = ii + 32 := ⟨_, rfl⟩
        have HI2 : Hid (i2 = ii + 32) := hi2
        have dN1 : ii ≤ i2 := by omega
        have dN2 : i2 ≤ cg := by omega
        have dN3 : i2 ≤ c9 := by omega
        have dN4 : i2 - ii = 32 := by omega
        have dN5 : (cg = ii) = False := by simp; omega
        have dN6 : (c9 = ii) = False := by simp; omega
        have dN7 : i2 ≤ 13792 := by omega
        clear hjz hj hiE hi2
        by_cases hEQ : pad32 zj = pad32 tj
        · clear hOR
          go_wp2_with fail
          refine wp_region_noPanic ?_
          refine wp_region_held_drew (S := fun V => True) (by kernel_rfl) trivial ?_
          intro hHeld
          have b0 : Below wr.heap.size wr wr.drew := (Below.refl _ _).drew
          generalize wr.drew = wx at *
          refine takeD 0 160 (.slice (some ⟨bz, oz, none⟩) TN cg) (by exact rfl) rfl (by kernel_rfl) (by kernel_rfl) (by kernel_rfl) (fun _ _ _ h => h) (Or.inl ⟨by rfl, ?_⟩) (by assumption) ?_
          · intro wq hS
            go_simp
          try simp only [Act.put, List.setIfInBounds_toArray, List.set_cons_zero, List.set_cons_succ]
          refine takeD 1 161 (.int .i64 (ii : Int)) (by exact rfl) rfl (by kernel_rfl) (by kernel_rfl) (by kernel_rfl) (fun _ _ _ h => h) (Or.inl ⟨by rfl, ?_⟩) (by assumption) ?_
          · intro wq hS
            go_simp
          try simp only [Act.put, List.setIfInBounds_toArray, List.set_cons_zero, List.set_cons_succ]
          refine takeD 2 162 (.int .i64 (ii : Int)) (by exact rfl) rfl (by kernel_rfl) (by kernel_rfl) (by kernel_rfl) (fun _ _ _ h => h) (Or.inl ⟨by rfl, ?_⟩) (by assumption) ?_
          · intro wq hS
            go_simp
          try simp only [Act.put, List.setIfInBounds_toArray, List.set_cons_zero, List.set_cons_succ]
          refine takeD 3 163 (.int .i64 (i2 : Int)) (by exact rfl) rfl (by kernel_rfl) (by kernel_rfl) (by kernel_rfl) (fun _ _ _ h => h) (Or.inl ⟨by rfl, ?_⟩) (by assumption) ?_
          · intro wq hS
            go_simp
            rw [wrap_small _ (by omega) (by omega)]; have := HI2.out; omega
          try simp only [Act.put, List.setIfInBounds_toArray, List.set_cons_zero, List.set_cons_succ]
          refine takeD 4 164 (.slice (some ⟨bz, oz + ii, none⟩) 32 (cg - ii)) (by exact rfl) rfl (by kernel_rfl) (by kernel_rfl) (by kernel_rfl) (fun _ _ _ h => h) (Or.inl ⟨by rfl, ?_⟩) (by assumption) ?_
          · intro wq hS
            go_simp
          try simp only [Act.put, List.setIfInBounds_toArray, List.set_cons_zero, List.set_cons_succ]
          refine takeD 5 165 (.slice (some ⟨bt9, ot9, none⟩) TN c9) (by exact rfl) rfl (by kernel_rfl) (by kernel_rfl) (by kernel_rfl) (fun _ _ _ h => h) (Or.inl ⟨by rfl, ?_⟩) (by assumption) ?_
          · intro wq hS
            go_simp
          try simp only [Act.put, List.setIfInBounds_toArray, List.set_cons_zero, List.set_cons_succ]
          refine takeD 6 166 (.int .i64 (ii : Int)) (by exact rfl) rfl (by kernel_rfl) (by kernel_rfl) (by kernel_rfl) (fun _ _ _ h => h) (Or.inl ⟨by rfl, ?_⟩) (by assumption) ?_
          · intro wq hS
            go_simp
          try simp only [Act.put, List.setIfInBounds_toArray, List.set_cons_zero, List.set_cons_succ]
          refine takeD 7 167 (.int .i64 (ii : Int)) (by exact rfl) rfl (by kernel_rfl) (by kernel_rfl) (by kernel_rfl) (fun _ _ _ h => h) (Or.inl ⟨by rfl, ?_⟩) (by assumption) ?_
          · intro wq hS
            go_simp
          try simp only [Act.put, List.setIfInBounds_toArray, List.set_cons_zero, List.set_cons_succ]
          refine takeD 8 168 (.int .i64 (i2 : Int)) (by exact rfl) rfl (by kernel_rfl) (by kernel_rfl) (by kernel_rfl) (fun _ _ _ h => h) (Or.inl ⟨by rfl, ?_⟩) (by assumption) ?_
          · intro wq hS
            go_simp
            rw [wrap_small _ (by omega) (by omega)]; have := HI2.out; omega
          try simp only [Act.put, List.setIfInBounds_toArray, List.set_cons_zero, List.set_cons_succ]
          refine takeD 9 169 (.slice (some ⟨bt9, ot9 + ii, none⟩) 32 (c9 - ii)) (by exact rfl) rfl (by kernel_rfl) (by kernel_rfl) (by kernel_rfl) (fun _ _ _ h => h) (Or.inl ⟨by rfl, ?_⟩) (by assumption) ?_
          · intro wq hS
            go_simp
          try simp only [Act.put, List.setIfInBounds_toArray, List.set_cons_zero, List.set_cons_succ]
          refine wpAnyH_ready (rs := [10]) (by kernel_rfl) (by simp) ?_
          refine AllReadyH.cons (by exact rfl) (fun K hK => ?_) AllReadyH.nil
          go_simp
          refine (same_ok _ _ _ _ wx (HZj.out.step b0) (HTj.out.step b0)).mono ?_
          rintro e wy ⟨rfl, by1⟩
          rw [decide_eq_true hEQ]
          go_wp2_with fail
          refine hK.out _ _ trivial (fun hHeld => ?_)
          clear hK K
          try simp only [Act.put, List.setIfInBounds_toArray, List.set_cons_zero, List.set_cons_succ]
          refine takeD 11 171 (.bool false) (by exact rfl) rfl (by kernel_rfl) (by kernel_rfl) (by kernel_rfl) (fun _ _ _ h => h) (Or.inl ⟨by rfl, ?_⟩) (by assumption) ?_
          · intro wq hS
            go_simp
          try simp only [Act.put, List.setIfInBounds_toArray, List.set_cons_zero, List.set_cons_succ]
          refine takeD 12 172 (.bool false) (by exact rfl) rfl (by kernel_rfl) (by kernel_rfl) (by kernel_rfl) (fun _ _ _ h => h) (Or.inl ⟨by rfl, ?_⟩) (by assumption) ?_
          · intro wq hS
            go_simp
          try simp only [Act.put, List.setIfInBounds_toArray, List.set_cons_zero, List.set_cons_succ]
          refine takeD 13 173 undef (by exact rfl) rfl (by kernel_rfl) (by kernel_rfl) (by kernel_rfl) (fun _ _ _ h => h) (Or.inr ⟨by rfl, rfl⟩) (by assumption) ?_
          try simp only [Act.put, List.setIfInBounds_toArray, List.set_cons_zero, List.set_cons_succ]
          refine takeD 14 174 undef (by exact rfl) rfl (by kernel_rfl) (by kernel_rfl) (by kernel_rfl) (fun _ _ _ h => h) (Or.inr ⟨by rfl, rfl⟩) (by assumption) ?_
          try simp only [Act.put, List.setIfInBounds_toArray, List.set_cons_zero, List.set_cons_succ]
          refine takeD 15 175 undef (by exact rfl) rfl (by kernel_rfl) (by kernel_rfl) (by kernel_rfl) (fun _ _ _ h => h) (Or.inr ⟨by rfl, rfl⟩) (by assumption) ?_
          try simp only [Act.put, List.setIfInBounds_toArray, List.set_cons_zero, List.set_cons_succ]
          refine takeD 16 176 undef (by exact rfl) rfl (by kernel_rfl) (by kernel_rfl) (by kernel_rfl) (fun _ _ _ h => h) (Or.inr ⟨by rfl, rfl⟩) (by assumption) ?_
          try simp only [Act.put, List.setIfInBounds_toArray, List.set_cons_zero, List.set_cons_succ]
          refine takeD 17 177 undef (by exact rfl) rfl (by kernel_rfl) (by kernel_rfl) (by kernel_rfl) (fun _ _ _ h => h) (Or.inr ⟨by rfl, rfl⟩) (by assumption) ?_
          try simp only [Act.put, List.setIfInBounds_toArray, List.set_cons_zero, List.set_cons_succ]
          refine takeD 18 178 undef (by exact rfl) rfl (by kernel_rfl) (by kernel_rfl) (by kernel_rfl) (fun _ _ _ h => h) (Or.inr ⟨by rfl, rfl⟩) (by assumption) ?_
          try simp only [Act.put, List.setIfInBounds_toArray, List.set_cons_zero, List.set_cons_succ]
          refine takeD 19 179 undef (by exact rfl) rfl (by kernel_rfl) (by kernel_rfl) (by kernel_rfl) (fun _ _ _ h => h) (Or.inr ⟨by rfl, rfl⟩) (by assumption) ?_
          try simp only [Act.put, List.setIfInBounds_toArray, List.set_cons_zero, List.set_cons_succ]
          refine takeD 20 180 undef (by exact rfl) rfl (by kernel_rfl) (by kernel_rfl) (by kernel_rfl) (fun _ _ _ h => h) (Or.inr ⟨by rfl, rfl⟩) (by assumption) ?_
          try simp only [Act.put, List.setIfInBounds_toArray, List.set_cons_zero, List.set_cons_succ]
          refine takeD 21 181 (.bool false) (by exact rfl) rfl (by kernel_rfl) (by kernel_rfl) (by kernel_rfl) (fun _ _ _ h => h) (Or.inl ⟨by rfl, ?_⟩) (by assumption) ?_
          · intro wq hS
            go_simp
          try simp only [Act.put, List.setIfInBounds_toArray, List.set_cons_zero, List.set_cons_succ]
          refine wpAnyH_done (by kernel_rfl) ?_ _
          refine NoPanic.normal ?_
          have HBy : Hid (Below wg.heap.size wg wy) := HBr.out.trans ((b0.trans (by1.mono b0.size)).mono HBr.out.size)
          clear b0 by1 hHeld
          go_wp2_with fail
          go_roundw
          case rel => exact ⟨i2, q + 1, (by rw [HI2.out]; simp), (show i2 = SN + 32 * (q + 1) by have := HI.out; have := HI2.out; omega), by have := HI2.out; omega, HBy.out⟩
          case measure => simp [intOf]; omega
        · have hZE : pad32 zj = List.replicate 32 0 := by
            rcases hOR with h | h
            · exact absurd (by rw [h]) hEQ
            · rw [h]; decide
          clear hOR
          go_wp2_with fail
          refine wp_region_noPanic ?_
          refine wp_region_held_drew (S := fun V => True) (by kernel_rfl) trivial ?_
          intro hHeld
          have b0 : Below wr.heap.size wr wr.drew := (Below.refl _ _).drew
          generalize wr.drew = wx at *
          refine takeD 0 160 (.slice (some ⟨bz, oz, none⟩) TN cg) (by exact rfl) rfl (by kernel_rfl) (by kernel_rfl) (by kernel_rfl) (fun _ _ _ h => h) (Or.inl ⟨by rfl, ?_⟩) (by assumption) ?_
          · intro wq hS
            go_simp
          try simp only [Act.put, List.setIfInBounds_toArray, List.set_cons_zero, List.set_cons_succ]
          refine takeD 1 161 (.int .i64 (ii : Int)) (by exact rfl) rfl (by kernel_rfl) (by kernel_rfl) (by kernel_rfl) (fun _ _ _ h => h) (Or.inl ⟨by rfl, ?_⟩) (by assumption) ?_
          · intro wq hS
            go_simp
          try simp only [Act.put, List.setIfInBounds_toArray, List.set_cons_zero, List.set_cons_succ]
          refine takeD 2 162 (.int .i64 (ii : Int)) (by exact rfl) rfl (by kernel_rfl) (by kernel_rfl) (by kernel_rfl) (fun _ _ _ h => h) (Or.inl ⟨by rfl, ?_⟩) (by assumption) ?_
          · intro wq hS
            go_simp
          try simp only [Act.put, List.setIfInBounds_toArray, List.set_cons_zero, List.set_cons_succ]
          refine takeD 3 163 (.int .i64 (i2 : Int)) (by exact rfl) rfl (by kernel_rfl) (by kernel_rfl) (by kernel_rfl) (fun _ _ _ h => h) (Or.inl ⟨by rfl, ?_⟩) (by assumption) ?_
          · intro wq hS
            go_simp
            rw [wrap_small _ (by omega) (by omega)]; have := HI2.out; omega
          try simp only [Act.put, List.setIfInBounds_toArray, List.set_cons_zero, List.set_cons_succ]
          refine takeD 4 164 (.slice (some ⟨bz, oz + ii, none⟩) 32 (cg - ii)) (by exact rfl) rfl (by kernel_rfl) (by kernel_rfl) (by kernel_rfl) (fun _ _ _ h => h) (Or.inl ⟨by rfl, ?_⟩) (by assumption) ?_
          · intro wq hS
            go_simp
          try simp only [Act.put, List.setIfInBounds_toArray, List.set_cons_zero, List.set_cons_succ]
          refine takeD 5 165 (.slice (some ⟨bt9, ot9, none⟩) TN c9) (by exact rfl) rfl (by kernel_rfl) (by kernel_rfl) (by kernel_rfl) (fun _ _ _ h => h) (Or.inl ⟨by rfl, ?_⟩) (by assumption) ?_
          · intro wq hS
            go_simp
          try simp only [Act.put, List.setIfInBounds_toArray, List.set_cons_zero, List.set_cons_succ]
          refine takeD 6 166 (.int .i64 (ii : Int)) (by exact rfl) rfl (by kernel_rfl) (by kernel_rfl) (by kernel_rfl) (fun _ _ _ h => h) (Or.inl ⟨by rfl, ?_⟩) (by assumption) ?_
          · intro wq hS
            go_simp
          try simp only [Act.put, List.setIfInBounds_toArray, List.set_cons_zero, List.set_cons_succ]
          refine takeD 7 167 (.int .i64 (ii : Int)) (by exact rfl) rfl (by kernel_rfl) (by kernel_rfl) (by kernel_rfl) (fun _ _ _ h => h) (Or.inl ⟨by rfl, ?_⟩) (by assumption) ?_
          · intro wq hS
            go_simp
          try simp only [Act.put, List.setIfInBounds_toArray, List.set_cons_zero, List.set_cons_succ]
          refine takeD 8 168 (.int .i64 (i2 : Int)) (by exact rfl) rfl (by kernel_rfl) (by kernel_rfl) (by kernel_rfl) (fun _ _ _ h => h) (Or.inl ⟨by rfl, ?_⟩) (by assumption) ?_
          · intro wq hS
            go_simp
            rw [wrap_small _ (by omega) (by omega)]; have := HI2.out; omega
          try simp only [Act.put, List.setIfInBounds_toArray, List.set_cons_zero, List.set_cons_succ]
          refine takeD 9 169 (.slice (some ⟨bt9, ot9 + ii, none⟩) 32 (c9 - ii)) (by exact rfl) rfl (by kernel_rfl) (by kernel_rfl) (by kernel_rfl) (fun _ _ _ h => h) (Or.inl ⟨by rfl, ?_⟩) (by assumption) ?_
          · intro wq hS
            go_simp
          try simp only [Act.put, List.setIfInBounds_toArray, List.set_cons_zero, List.set_cons_succ]
          refine wpAnyH_ready (rs := [10]) (by kernel_rfl) (by simp) ?_
          refine AllReadyH.cons (by exact rfl) (fun K hK => ?_) AllReadyH.nil
          go_simp
          refine (same_ok _ _ _ _ wx (HZj.out.step b0) (HTj.out.step b0)).mono ?_
          rintro e wy ⟨rfl, by1⟩
          rw [decide_eq_false hEQ]
          go_wp2_with fail
          refine hK.out _ _ trivial (fun hHeld => ?_)
          clear hK K
          try simp only [Act.put, List.setIfInBounds_toArray, List.set_cons_zero, List.set_cons_succ]
          refine takeD 11 171 (.bool true) (by exact rfl) rfl (by kernel_rfl) (by kernel_rfl) (by kernel_rfl) (fun _ _ _ h => h) (Or.inl ⟨by rfl, ?_⟩) (by assumption) ?_
          · intro wq hS
            go_simp
          try simp only [Act.put, List.setIfInBounds_toArray, List.set_cons_zero, List.set_cons_succ]
          refine takeD 12 172 (.bool true) (by exact rfl) rfl (by kernel_rfl) (by kernel_rfl) (by kernel_rfl) (fun _ _ _ h => h) (Or.inl ⟨by rfl, ?_⟩) (by assumption) ?_
          · intro wq hS
            go_simp
          try simp only [Act.put, List.setIfInBounds_toArray, List.set_cons_zero, List.set_cons_succ]
          refine takeD 13 173 (.slice (some ⟨bz, oz, none⟩) TN cg) (by exact rfl) rfl (by kernel_rfl) (by kernel_rfl) (by kernel_rfl) (fun _ _ _ h => h) (Or.inl ⟨by rfl, ?_⟩) (by assumption) ?_
          · intro wq hS
            go_simp
          try simp only [Act.put, List.setIfInBounds_toArray, List.set_cons_zero, List.set_cons_succ]
          refine takeD 14 174 (.int .i64 (ii : Int)) (by exact rfl) rfl (by kernel_rfl) (by kernel_rfl) (by kernel_rfl) (fun _ _ _ h => h) (Or.inl ⟨by rfl, ?_⟩) (by assumption) ?_
          · intro wq hS
            go_simp
          try simp only [Act.put, List.setIfInBounds_toArray, List.set_cons_zero, List.set_cons_succ]
          refine takeD 15 175 (.int .i64 (ii : Int)) (by exact rfl) rfl (by kernel_rfl) (by kernel_rfl) (by kernel_rfl) (fun _ _ _ h => h) (Or.inl ⟨by rfl, ?_⟩) (by assumption) ?_
          · intro wq hS
            go_simp
          try simp only [Act.put, List.setIfInBounds_toArray, List.set_cons_zero, List.set_cons_succ]
          refine takeD 16 176 (.int .i64 (i2 : Int)) (by exact rfl) rfl (by kernel_rfl) (by kernel_rfl) (by kernel_rfl) (fun _ _ _ h => h) (Or.inl ⟨by rfl, ?_⟩) (by assumption) ?_
          · intro wq hS
            go_simp
            rw [wrap_small _ (by omega) (by omega)]; have := HI2.out; omega
          try simp only [Act.put, List.setIfInBounds_toArray, List.set_cons_zero, List.set_cons_succ]
          refine takeD 17 177 (.slice (some ⟨bz, oz + ii, none⟩) 32 (cg - ii)) (by exact rfl) rfl (by kernel_rfl) (by kernel_rfl) (by kernel_rfl) (fun _ _ _ h => h) (Or.inl ⟨by rfl, ?_⟩) (by assumption) ?_
          · intro wq hS
            go_simp
          try simp only [Act.put, List.setIfInBounds_toArray, List.set_cons_zero, List.set_cons_succ]
          refine wpAnyH_ready (rs := [18]) (by kernel_rfl) (by simp) ?_
          refine AllReadyH.cons (by exact rfl) (fun K hK => ?_) AllReadyH.nil
          go_simp
          have bm := (Below.refl wy.heap.size wy).alloc (Nat.le_refl _) (.cells c32 5)
          have Om : OwnB (wy.alloc (.cells c32 5)) wy.heap.size (.slice (some ⟨wy.heap.size, 0, none⟩) 32 32) (List.replicate 32 0) := by
            have := own_mk 32 (by omega) wy
            rw [H32.out] at this
            exact this
          refine hK.out _ _ trivial (fun hHeld => ?_)
          clear hK K
          try simp only [Act.put, List.setIfInBounds_toArray, List.set_cons_zero, List.set_cons_succ]
          refine wpAnyH_ready (rs := [19]) (by kernel_rfl) (by simp) ?_
          refine AllReadyH.cons (by exact rfl) (fun K hK => ?_) AllReadyH.nil
          go_simp
          refine (same_ok _ _ _ _ _ (((HZj.out.step b0).step by1).step bm) Om.bs).mono ?_
          rintro e wv ⟨rfl, bv⟩
          rw [decide_eq_true hZE]
          go_wp2_with fail
          refine hK.out _ _ trivial (fun hHeld => ?_)
          clear hK K
          try simp only [Act.put, List.setIfInBounds_toArray, List.set_cons_zero, List.set_cons_succ]
          refine takeD 20 180 (.bool false) (by exact rfl) rfl (by kernel_rfl) (by kernel_rfl) (by kernel_rfl) (fun _ _ _ h => h) (Or.inl ⟨by rfl, ?_⟩) (by assumption) ?_
          · intro wq hS
            go_simp
          try simp only [Act.put, List.setIfInBounds_toArray, List.set_cons_zero, List.set_cons_succ]
          refine takeD 21 181 (.bool false) (by exact rfl) rfl (by kernel_rfl) (by kernel_rfl) (by kernel_rfl) (fun _ _ _ h => h) (Or.inl ⟨by rfl, ?_⟩) (by assumption) ?_
          · intro wq hS
            go_simp
          try simp only [Act.put, List.setIfInBounds_toArray, List.set_cons_zero, List.set_cons_succ]
          refine wpAnyH_done (by kernel_rfl) ?_ _
          refine NoPanic.normal ?_
          have HBy : Hid (Below wg.heap.size wg wv) := HBr.out.trans ((((b0.trans (by1.mono b0.size)).trans (bm.mono (Nat.le_trans b0.size by1.size))).trans (bv.mono (Nat.le_trans (Nat.le_trans b0.size by1.size) bm.size))).mono HBr.out.size)
          clear b0 by1 bm bv hHeld Om
          go_wp2_with fail
          go_roundw
          case rel => exact ⟨i2, q + 1, (by rw [HI2.out]; simp), (show i2 = SN + 32 * (q + 1) by have := HI.out; have := HI2.out; omega), by have := HI2.out; omega, HBy.out⟩
          case measure => simp [intOf]; omega
      · go_wp2_with fail
        go_ret
        exact ⟨rfl, HALL.out _ (HBEg.out.trans (HBr.out.mono HBg.out))⟩
end Go.Proofs.Ytonnkfijifdgcaa
