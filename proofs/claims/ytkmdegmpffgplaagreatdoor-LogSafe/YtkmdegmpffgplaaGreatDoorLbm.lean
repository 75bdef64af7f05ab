/- log XXV: the laws' awake. -/
import Derived.Test.YtkmdegmpffgplaaGreatDoorLbl
namespace Go.Proofs.YtkmdegmpffgplaaGreatDoor
open Go.RowKit Go.Maps Go.Sort Go.Shelf pk
set_option linter.unusedVariables false
set_option linter.unusedSimpArgs false
theorem l0_ok : (List.replicate 32 0).length = 32 ∧ By (List.replicate 32 0) := ⟨by simp, fun a ha => by rw [List.eq_of_mem_replicate ha]; omega⟩
theorem Pay.slice {w : World} {B : Nat} {u : Value} {ps : List (List Nat)} (h : Pay w B u ps) : ∃ a c, u = .slice a ps.length c ∧ ps.length ≤ c ∧ c ≤ 9223372036854775807 := by
  obtain ⟨ts, h1, h2, _⟩ := h.ex
  obtain ⟨a, c, e, e1, e2, _⟩ := h2.sl
  rw [← h1, List.length_map]
  exact ⟨a, c, e, e1, e2⟩
set_option maxRecDepth 100000 in
set_option maxHeartbeats 2000000 in
theorem awake_ok (w : World) (hT : Pt10 w) (hTb : Tb w) (h2 : 2 ≤ w.heap.size) : Calls Tryz.prog 14 #[] w fun e w' => e = .returned (.bool true) ∧ Below w.heap.size w w' := by
  have HT : Hid (PtB w.heap.size w) := ptB_of hT
  have HTB : Hid (TbB w.heap.size w) := tbB_of hTb h2
  clear hT hTb h2
  go_enter Tryz.func14, Tryz.ntmps14
  go_wp2_with fail
  refine (new_any 100 w (by omega) (by omega)).mono ?_
  rintro e w1 ⟨p, m, rfl, h1, b1⟩
  have HB1 := (show Hid _ from b1)
  have HD1 : Hid (Dst w1 w.heap.size p m 100 0 [] 2 0 []) := dst_new h1 (HT.out.on b1) (HTB.out.on b1) 2 (by omega)
  clear h1 b1 HT HTB
  unfold ptr
  go_wp2_with fail
  refine (open_st w1 w.heap.size p m 100 0 [] 2 0 [] HD1.out (by simp)).mono ?_
  rintro e w2 ⟨lp, u, hlp, rfl, hg, hp, b2⟩
  obtain ⟨ua, uc, rfl, _, _⟩ := hp.slice
  rw [show (List.map (fun x : Rc => x.1) []).length = 0 from rfl]
  have HB2 : Hid (Below w.heap.size w w2) := HB1.out.trans (b2.mono HB1.out.size)
  have HD2 : Hid (Dst w2 w.heap.size p m 100 0 [] 2 0 []) := HD1.out.step b2
  have HL2 : Hid (Lg w2 lp p (gst 2 0 [] (List.replicate 32 0))) := hg
  have HLP : Hid (w.heap.size ≤ lp) := Nat.le_trans HB1.out.size hlp
  clear hlp hg hp b2 HB1 HD1
  go_wp2_with fail
  refine wp_loop_rounds 4 ?_
  obtain ⟨q, hq⟩ : ∃ q, q = w2.heap.size := ⟨_, rfl⟩
  have bA : Below w2.heap.size w2 (w2.alloc (.cells #[.string ⟨#[97]⟩, .string ⟨#[98]⟩, .string ⟨#[99]⟩] 9)) := (Below.refl _ _).alloc (Nat.le_refl _) _
  have HV0 : Hid (VA (w2.alloc (.cells #[.string ⟨#[97]⟩, .string ⟨#[98]⟩, .string ⟨#[99]⟩] 9)) q [.string ⟨#[97]⟩, .string ⟨#[98]⟩, .string ⟨#[99]⟩] 9) := (show VA _ _ _ _ from by rw [hq]; exact va_new w2 [.string ⟨#[97]⟩, .string ⟨#[98]⟩, .string ⟨#[99]⟩] 9)
  have HD0 : Hid (Dst _ w.heap.size p m 100 0 [] 2 0 []) := HD2.out.step bA
  have HG0 : Hid (Lg _ lp p (gst 2 0 [] (List.replicate 32 0))) := HL2.out.step bA
  have HB0 : Hid (Below w.heap.size w _) := HB2.out.trans (bA.mono HB2.out.size)
  have HS0 : Hid (([] : List Rc).length = 0 ∧ ([] : FS).length ≤ 0 ∧ totA ([] : FS) ≤ 0 ∧ ([] : List Rc).map (·.1) = []) := ⟨rfl, Nat.le_refl _, Nat.le_refl _, rfl⟩
  rw [← hq]
  clear hq bA HD2 HL2 HB2
  generalize w2.alloc (.cells #[.string ⟨#[97]⟩, .string ⟨#[98]⟩, .string ⟨#[99]⟩] 9) = v0 at *
  rw [rounds_succ]
  obtain ⟨cp0, W0, hcv, hbs, hsf, hbl⟩ := conv_s v0 97
  have HBS := (show Hid _ from And.intro hbs (And.intro hsf hbl))
  have yk := HV0.out.cell 0 rfl
  clear hbs hsf hbl
  go_wp2_with fail
  have C := append_st W0 w.heap.size p m 100 0 ([] : FS) 2 0 lp ([] : List Rc) (List.replicate 32 0) (HD0.out.step HBS.out.2.2) (HG0.out.step HBS.out.2.2) l0_ok HLP.out _ [97] HBS.out.1 HBS.out.2.1 (by simp) (by simp) (by omega) (by have := HS0.out; omega) (room_of (by have := HS0.out; omega) (by have := HS0.out; have e : cn4 ([97].length + 36) = 2 := rfl; omega))
  have e1 : 0 * 2 + 1 + ([] : List Rc).length = 1 := by have := HS0.out; omega
  rw [e1] at C
  refine Calls.mono C ?_
  rintro e v1 ⟨rfl, hd, hl, hk, hb⟩
  have HV1 : Hid (VA v1 q [.string ⟨#[97]⟩, .string ⟨#[98]⟩, .string ⟨#[99]⟩] 9) := (HV0.out.step HBS.out.2.2).kl hk (by unfold Dt; decide) (by decide)
  have HB1 : Hid (Below w.heap.size w v1) := HB0.out.trans ((HBS.out.2.2.mono HB0.out.size).trans hb)
  obtain ⟨r0, hr⟩ : ∃ r, r = mkR 2 0 ([] : List Rc) (List.replicate 32 0) [97] := ⟨_, rfl⟩
  have hr2 : r0.2.length = 32 := by rw [hr, mkR_2]; exact chn_len _ _
  have hr1 : r0.1 = [97] := by rw [hr]; simp only [mkR]
  rw [← hr] at hd hl
  have HS1 : Hid ((([] : List Rc) ++ [r0]).length = 1 ∧ (afs ([] : FS) 2 0 ([] : List Rc) r0).length ≤ 1 ∧ totA (afs ([] : FS) 2 0 ([] : List Rc) r0) ≤ 2 ∧ (([] : List Rc) ++ [r0]).map (·.1) = [[97]]) := (show _ ∧ _ ∧ _ ∧ _ from by
    have h1 := len_afs ([] : FS) 2 0 ([] : List Rc) r0
    have h2 := tot_afs ([] : FS) 2 0 ([] : List Rc) r0 hr2
    have h3 : cn4 (r0.1.length + 36) = 2 := by rw [hr1]; rfl
    have h4 := HS0.out
    refine ⟨by rw [List.length_append, List.length_singleton]; omega, by omega, by omega, ?_⟩
    rw [List.map_append, h4.2.2.2, List.map_singleton, hr1]
    rfl)
  have HD1 := (show Hid _ from hd)
  have HG1 := (show Hid _ from hl)
  clear hd hl hk hb C HBS hcv e1 HD0 HG0 HB0 HS0 HV0 yk hr hr1 hr2
  obtain ⟨R1, hR⟩ : ∃ r, r = ([] : List Rc) ++ [r0] := ⟨_, rfl⟩
  obtain ⟨F1, hF⟩ : ∃ r, r = afs ([] : FS) 2 0 ([] : List Rc) r0 := ⟨_, rfl⟩
  rw [← hR] at HD1 HS1 HG1
  rw [← hF] at HD1 HS1
  clear hR hF
  go_wp2_with fail
  rw [rounds_succ]
  obtain ⟨cp1, W1, hcv, hbs, hsf, hbl⟩ := conv_s v1 98
  have HBS := (show Hid _ from And.intro hbs (And.intro hsf hbl))
  have yk := HV1.out.cell 1 rfl
  clear hbs hsf hbl
  go_wp2_with fail
  have C := append_st W1 w.heap.size p m 100 2 F1 2 0 lp R1 (List.replicate 32 0) (HD1.out.step HBS.out.2.2) (HG1.out.step HBS.out.2.2) l0_ok HLP.out _ [98] HBS.out.1 HBS.out.2.1 (by simp) (by simp) (by omega) (by have := HS1.out; omega) (room_of (by have := HS1.out; omega) (by have := HS1.out; have e : cn4 ([98].length + 36) = 2 := rfl; omega))
  have e1 : 0 * 2 + 1 + R1.length = 2 := by have := HS1.out; omega
  rw [e1] at C
  refine Calls.mono C ?_
  rintro e v2 ⟨rfl, hd, hl, hk, hb⟩
  have HV2 : Hid (VA v2 q [.string ⟨#[97]⟩, .string ⟨#[98]⟩, .string ⟨#[99]⟩] 9) := (HV1.out.step HBS.out.2.2).kl hk (by unfold Dt; decide) (by decide)
  have HB2 : Hid (Below w.heap.size w v2) := HB1.out.trans ((HBS.out.2.2.mono HB1.out.size).trans hb)
  obtain ⟨r1, hr⟩ : ∃ r, r = mkR 2 0 R1 (List.replicate 32 0) [98] := ⟨_, rfl⟩
  have hr2 : r1.2.length = 32 := by rw [hr, mkR_2]; exact chn_len _ _
  have hr1 : r1.1 = [98] := by rw [hr]; simp only [mkR]
  rw [← hr] at hd hl
  have HS2 : Hid ((R1 ++ [r1]).length = 2 ∧ (afs F1 2 0 R1 r1).length ≤ 2 ∧ totA (afs F1 2 0 R1 r1) ≤ 4 ∧ (R1 ++ [r1]).map (·.1) = [[97], [98]]) := (show _ ∧ _ ∧ _ ∧ _ from by
    have h1 := len_afs F1 2 0 R1 r1
    have h2 := tot_afs F1 2 0 R1 r1 hr2
    have h3 : cn4 (r1.1.length + 36) = 2 := by rw [hr1]; rfl
    have h4 := HS1.out
    refine ⟨by rw [List.length_append, List.length_singleton]; omega, by omega, by omega, ?_⟩
    rw [List.map_append, h4.2.2.2, List.map_singleton, hr1]
    rfl)
  have HD2 := (show Hid _ from hd)
  have HG2 := (show Hid _ from hl)
  clear hd hl hk hb C HBS hcv e1 HD1 HG1 HB1 HS1 HV1 yk hr hr1 hr2
  obtain ⟨R2, hR⟩ : ∃ r, r = R1 ++ [r1] := ⟨_, rfl⟩
  obtain ⟨F2, hF⟩ : ∃ r, r = afs F1 2 0 R1 r1 := ⟨_, rfl⟩
  rw [← hR] at HD2 HS2 HG2
  rw [← hF] at HD2 HS2
  clear hR hF
  go_wp2_with fail
  rw [rounds_succ]
  obtain ⟨cp2, W2, hcv, hbs, hsf, hbl⟩ := conv_s v2 99
  have HBS := (show Hid _ from And.intro hbs (And.intro hsf hbl))
  have yk := HV2.out.cell 2 rfl
  clear hbs hsf hbl
  go_wp2_with fail
  have C := append_st W2 w.heap.size p m 100 4 F2 2 0 lp R2 (List.replicate 32 0) (HD2.out.step HBS.out.2.2) (HG2.out.step HBS.out.2.2) l0_ok HLP.out _ [99] HBS.out.1 HBS.out.2.1 (by simp) (by simp) (by omega) (by have := HS2.out; omega) (room_of (by have := HS2.out; omega) (by have := HS2.out; have e : cn4 ([99].length + 36) = 2 := rfl; omega))
  have e1 : 0 * 2 + 1 + R2.length = 3 := by have := HS2.out; omega
  rw [e1] at C
  refine Calls.mono C ?_
  rintro e v3 ⟨rfl, hd, hl, hk, hb⟩
  have HV3 : Hid (VA v3 q [.string ⟨#[97]⟩, .string ⟨#[98]⟩, .string ⟨#[99]⟩] 9) := (HV2.out.step HBS.out.2.2).kl hk (by unfold Dt; decide) (by decide)
  have HB3 : Hid (Below w.heap.size w v3) := HB2.out.trans ((HBS.out.2.2.mono HB2.out.size).trans hb)
  obtain ⟨r2, hr⟩ : ∃ r, r = mkR 2 0 R2 (List.replicate 32 0) [99] := ⟨_, rfl⟩
  have hr2 : r2.2.length = 32 := by rw [hr, mkR_2]; exact chn_len _ _
  have hr1 : r2.1 = [99] := by rw [hr]; simp only [mkR]
  rw [← hr] at hd hl
  have HS3 : Hid ((R2 ++ [r2]).length = 3 ∧ (afs F2 2 0 R2 r2).length ≤ 3 ∧ totA (afs F2 2 0 R2 r2) ≤ 6 ∧ (R2 ++ [r2]).map (·.1) = [[97], [98], [99]]) := (show _ ∧ _ ∧ _ ∧ _ from by
    have h1 := len_afs F2 2 0 R2 r2
    have h2 := tot_afs F2 2 0 R2 r2 hr2
    have h3 : cn4 (r2.1.length + 36) = 2 := by rw [hr1]; rfl
    have h4 := HS2.out
    refine ⟨by rw [List.length_append, List.length_singleton]; omega, by omega, by omega, ?_⟩
    rw [List.map_append, h4.2.2.2, List.map_singleton, hr1]
    rfl)
  have HD3 := (show Hid _ from hd)
  have HG3 := (show Hid _ from hl)
  clear hd hl hk hb C HBS hcv e1 HD2 HG2 HB2 HS2 HV2 yk hr hr1 hr2
  obtain ⟨R3, hR⟩ : ∃ r, r = R2 ++ [r2] := ⟨_, rfl⟩
  obtain ⟨F3, hF⟩ : ∃ r, r = afs F2 2 0 R2 r2 := ⟨_, rfl⟩
  rw [← hR] at HD3 HS3 HG3
  rw [← hF] at HD3 HS3
  clear hR hF
  go_wp2_with fail
  rw [rounds_succ]
  go_wp2_with fail
  have HP1 : Hid (Lg v3 lp p (gst 2 0 R3 (List.replicate 32 0))) := HG3.out
  refine (open_st v3 w.heap.size p m 100 _ F3 2 0 R3 HD3.out (by have := HS3.out; omega)).mono ?_
  rintro e w4 ⟨l2, u, hlp2, rfl, hg2, hp2, b4⟩
  have hp3 := hp2
  rw [HS3.out.2.2.2] at hp3
  obtain ⟨ts, e1, e2, e3⟩ := hp3.ex
  obtain ⟨t0, t1, t2, rfl⟩ : ∃ a b c, ts = [a, b, c] := by
    have h1 := congrArg List.length e1
    rw [List.length_map] at h1
    match ts, h1 with
    | [a, b, c], _ => exact ⟨a, b, c, rfl⟩
  simp only [List.map_cons, List.map_nil, List.cons.injEq, and_true] at e1
  have q0 := (e3 t0 (by simp)).1
  have q2 := (e3 t2 (by simp)).1
  rw [e1.1] at q0
  rw [e1.2.2] at q2
  obtain ⟨a4, c4, hu4, _⟩ := e2.form
  have hu5 : u = .slice a4 3 c4 := hu4
  subst hu5
  have HSL : Sl KT w4 (.slice a4 3 c4) [t0, t1, t2] := e2.sl
  obtain ⟨b, off, rfl, _, _⟩ := HSL.at 0 t0 rfl
  have h3c : 3 ≤ c4 := by
    obtain ⟨_, _, e, h, _⟩ := e2.form
    cases e
    exact h
  obtain ⟨_, _, hc0⟩ : True ∧ True ∧ w4.cell? ⟨b, off, none⟩ = some (.slice t0.a 1 t0.c) := ⟨trivial, trivial, by
    obtain ⟨b', o', ea, _, hc⟩ := HSL.at 0 t0 rfl
    cases ea
    have h1 := hc 0 (.slice t0.a t0.bs.length t0.c) rfl
    rw [show t0.bs.length = 1 by rw [e1.1]; rfl] at h1
    exact h1⟩
  obtain ⟨b0, o0, ea0, hb0⟩ : ∃ b o, t0.a = some ⟨b, o, none⟩ ∧ w4.cell? ⟨b, o, none⟩ = some (.int .u8 97) := by
    obtain ⟨_, a, c, e, _, _, _, h4⟩ := q0
    injection e with ea _ _
    obtain ⟨b, o, eb, _, hx⟩ := h4 (by simp)
    exact ⟨b, o, ea.trans eb, by have h1 := hx 0 (by simp); rw [Nat.add_zero] at h1; exact h1⟩
  rw [ea0] at hc0
  have hcv0 := run_convert_bytes_arg (P := Tryz.prog) w4 22 5 Tryz.underlying22 Tryz.underlying5 b0 o0 1 t0.c [97] rfl (fun i hi => by obtain rfl : i = 0 := (by omega); exact hb0) 9 Tryz.underlying9
  rw [show strOfNums [97] = ⟨#[97]⟩ from rfl] at hcv0
  obtain ⟨_, _, hc2⟩ : True ∧ True ∧ w4.cell? ⟨b, off + 2, none⟩ = some (.slice t2.a 1 t2.c) := ⟨trivial, trivial, by
    obtain ⟨b', o', ea, _, hc⟩ := HSL.at 2 t2 rfl
    cases ea
    have h1 := hc 0 (.slice t2.a t2.bs.length t2.c) rfl
    rw [show t2.bs.length = 1 by rw [e1.2.2]; rfl] at h1
    exact h1⟩
  obtain ⟨b2, o2, ea2, hb2⟩ : ∃ b o, t2.a = some ⟨b, o, none⟩ ∧ w4.cell? ⟨b, o, none⟩ = some (.int .u8 99) := by
    obtain ⟨_, a, c, e, _, _, _, h4⟩ := q2
    injection e with ea _ _
    obtain ⟨b, o, eb, _, hx⟩ := h4 (by simp)
    exact ⟨b, o, ea.trans eb, by have h1 := hx 0 (by simp); rw [Nat.add_zero] at h1; exact h1⟩
  rw [ea2] at hc2
  have hcv2 := run_convert_bytes_arg (P := Tryz.prog) w4 22 5 Tryz.underlying22 Tryz.underlying5 b2 o2 1 t2.c [99] rfl (fun i hi => by obtain rfl : i = 0 := (by omega); exact hb2) 9 Tryz.underlying9
  rw [show strOfNums [99] = ⟨#[99]⟩ from rfl] at hcv2
  have HB4 : Hid (Below w.heap.size w w4) := HB3.out.trans (b4.mono HB3.out.size)
  have HFI := (show Hid _ from fun (_ : Unit) => first_ok w4 lp p (gst 2 0 R3 (List.replicate 32 0)) (HG3.out.step b4) ⟨by rw [gst_per]; omega, by rw [gst_low]; omega, by show 0 + (R3.length - 1) / 2 ≤ _; have := HS3.out; omega, by rw [gst_next]; have := HS3.out; omega⟩)
  have HNX := (show Hid _ from fun (_ : Unit) => next_ok w4 lp p (gst 2 0 R3 (List.replicate 32 0)) (HG3.out.step b4))
  rw [gst_low, gst_per] at HFI
  rw [gst_next, show 0 * 2 + 1 + R3.length = 4 by have := HS3.out; omega] at HNX
  clear hu4 e1 e2 e3 q0 q2 HSL ea0 ea2 hb0 hb2 hp2 hp3 hg2 hlp2 b4 HD3 HG3 HB3 HS3 HV3 HP1
  go_wp2_with fail
  refine Calls.mono (HFI.out ()) ?_
  rintro e w5 ⟨rfl, rfl⟩
  go_wp2_with fail
  refine Calls.mono (HNX.out ()) ?_
  rintro e w6 ⟨rfl, rfl⟩
  go_wp2_with fail
  go_ret
  exact ⟨rfl, HB4.out⟩
end Go.Proofs.YtkmdegmpffgplaaGreatDoor
/- log XXVII: a row of payloads that grows beside a log; an Append that there is no room for. -/
namespace Go.Proofs.YtkmdegmpffgplaaGreatDoor
open Go.RowKit Go.Maps Go.Sort Go.Shelf pk
set_option linter.unusedVariables false
set_option linter.unusedSimpArgs false
/-- all but rows of slices of bytes are as they were -/
structure KeP (w w' : World) : Prop where
  os : w'.os = w.os
  tape : w'.tape = w.tape
  output : w'.output = w.output
  size : w.heap.size ≤ w'.heap.size
  blk : ∀ (i : Nat) (o : Obj), w.heap[i]? = some o → (∀ cs z, o ≠ .cells cs 22 z) → w'.heap[i]? = some o
theorem KeP.bel {w w' : World} (h : Below w.heap.size w w') : KeP w w' := ⟨h.os, h.tape, h.output, h.size, fun i o e _ => (h.block i (hlt_of e)).trans e⟩
theorem KeP.trans {a b c : World} (h : KeP a b) (k : KeP b c) : KeP a c := ⟨k.os.trans h.os, k.tape.trans h.tape, k.output.trans h.output, Nat.le_trans h.size k.size, fun i o e hn => k.blk i o (h.blk i o e hn) hn⟩
theorem KeP.grown {w w' : World} {u : Value} {B : Nat} {ts : List TB} (o : Own KT w B u ts) (g : w.grownBy w' u.ownBlock) : KeP w w' := by
  refine ⟨g.os, g.tape, g.output, g.size, fun i ob e hn => ?_⟩
  refine (g.block i (hlt_of e) (fun h => ?_)).trans e
  rcases o.own.2 with ⟨rfl, _⟩ | ⟨q, cap, cur, rfl, _, hq, _⟩
  · cases h
  · cases h
    rw [hq] at e
    cases e
    exact hn _ _ rfl
theorem VA.kep {w w' : World} {q : Nat} {cs : List Value} {T : TypeId} (h : VA w q cs T) (k : KeP w w') (hT : T ≠ 22) : VA w' q cs T := ⟨k.blk _ _ h.blk (fun _ _ e => by cases e; exact hT rfl)⟩
theorem Lg.kep {w w' : World} {lp p : Nat} {g : LG} (h : Lg w lp p g) (k : KeP w w') : Lg w' lp p g := VA.kep h k (by decide)
theorem DA.kep {w w' : World} {B p m : Nat} {x : AD} (h : DA w B p m x) (k : KeP w w') : DA w' B p m x := by
  obtain ⟨es, u, hD, hab, hu, hun⟩ := h
  refine ⟨es, u, ⟨hD.va.kep k (by decide), hD.mp.blk ?_, fun e he => ?_, hD.ap, hD.lo, hD.fits⟩, hab, ?_, hun⟩
  · obtain ⟨ms, c, hm⟩ := map_blk hD.mp
    exact (k.blk _ _ hm (fun _ _ e => by cases e)).trans hm.symm
  · have f := hD.fil e he
    refine ⟨f.blk.kep k (by decide), f.row.blk (fun g hg => ?_), f.lo, f.sy, f.byte, f.nm⟩
    obtain ⟨cs, hc⟩ := row_blk f.row hg
    exact (k.blk _ _ hc (fun _ _ e => by cases e)).trans hc.symm
  · cases hq : x.und with
    | none => rw [hq] at hu; exact hu
    | some o =>
      rw [hq] at hu
      rcases hu with ⟨h1, Bf, e, h2, h3, h4⟩ | ⟨h1, hn, Bf, Bn, e, h2, h3, h4, h5⟩ | ⟨h1, hn, Bd, Ba, Bf, Bb, e, h2, h3, h4, h5, h6, h7⟩ | ⟨h1, Bd, Ba, e, h2, h3, h4, h5⟩
      · exact .inl ⟨h1, Bf, e, h2, h3, h4.kep k (by decide)⟩
      · exact .inr (.inl ⟨h1, hn, Bf, Bn, e, h2, h3, h4.kep k (by decide), h5.kep k (by decide)⟩)
      · exact .inr (.inr (.inr ⟨h1, Bd, Ba, e, h2, h3, h4.kep k (by decide), h5.kep k (by decide)⟩))
theorem Dst.kep {w w' : World} {B p m R o : Nat} {fs : FS} {per lo : Nat} {rs : List Rc} (h : Dst w B p m R o fs per lo rs) (k : KeP w w') (b : Below B w w') : Dst w' B p m R o fs per lo rs :=
  ⟨h.da.kep k, h.pt.on b, h.tb.on b, h.fil, h.lks, h.rok, h.per, h.few, h.emp⟩
theorem Own.klT {w w' : World} {B : Nat} {v : Value} {ts : List TB} (h : Own KT w B v ts) (k : Kel w w') : Own KT w' B v ts := by
  refine h.blk (fun g hg => ?_)
  rcases h.own.2 with ⟨rfl, _⟩ | ⟨q, cap, cur, rfl, _, hq, _⟩
  · cases hg
  · cases hg
    exact (k.blk _ _ _ _ hq (by unfold Dt; decide) (by decide)).trans hq.symm
theorem Pay.kl {w w' : World} {B : Nat} {u : Value} {ps : List (List Nat)} (h : Pay w B u ps) (k : Kel w w') : Pay w' B u ps := by
  obtain ⟨ts, h1, h2, h3⟩ := h.ex
  exact ⟨ts, h1, h2.klT k, fun t ht => ⟨(h3 t ht).1.kel (h3 t ht).2.l k, (h3 t ht).2.kel k⟩⟩
theorem pay_nil (w : World) (B : Nat) : Pay w B (.slice none 0 0) [] := ⟨[], rfl, own_nil KT _ _, fun t ht => by cases ht⟩
/-- append(want, p) -/
theorem appWant {w : World} {ops : Array Oper} {rest : List Oper} {o : Oper} {a : Act} {Q : Exit → Act → World → Prop} (hgd : o.guard = none) (s x : Operand)
    (ho : o.op = .call { callee := .builtin .append, args := #[s, x], argTypes := #[30, 30] })
    (B : Nat) (ps : List (List Nat)) (v : Value) (pa : Option Addr) (L c : Nat) (bs : List Nat) (hs : a.eval s = v) (hx : a.eval x = .slice (some ⟨w.heap.size, 0, none⟩) 1 1)
    (hp : Pay w B v ps) (hb : Bs w (.slice pa L c) bs) (hsf : SafeU w (.slice pa L c)) (hB : B ≤ w.heap.size) (hl : ps.length ≤ 1000000)
    (h : ∀ v' w', Pay w' B v' (ps ++ [bs]) → Below B w w' → KeP w w' → (∀ u cs, Bs w u cs → SafeU w u → Bs w' u cs ∧ SafeU w' u) → wpList Tryz.prog ops Q rest (a.put o.dst v') w') :
    wpList Tryz.prog ops Q (o :: rest) a (w.alloc (.cells #[.slice pa L c] 22)) := by
  obtain ⟨ts, h1, h2, h3⟩ := hp.ex
  have l1 : ts.length = ps.length := by have := congrArg List.length h1; simpa using this
  have hL := hb.len
  obtain rfl := hL.1
  refine appOneG (K := KT) hgd s x ho B ts v ⟨pa, c, bs⟩ hs hx h2 hB (by show (ts.length + 1) * 24 ≤ _; omega) (by omega) _ rfl (fun v' w' o' b' gr => ?_)
  have bA : Below w.heap.size w (w.alloc (.cells #[.slice pa bs.length c] 22)) := (Below.refl _ _).alloc (Nat.le_refl _) _
  have h2' := h2.alloc (.cells #[.slice pa bs.length c] 22)
  have HK : ∀ u cs, Bs w u cs → SafeU w u → Bs w' u cs ∧ SafeU w' u := fun u cs g1 g2 =>
    have g3 := g1.step bA
    have g4 := g2.kel (Kee.kel (Kee.bel bA))
    ⟨bs_grown g3 g4 h2' gr, g4.grown h2' gr⟩
  refine h v' w' ⟨ts ++ [⟨pa, c, bs⟩], by rw [List.map_append, h1]; rfl, o', fun t ht => ?_⟩ b' ((KeP.bel bA).trans (KeP.grown h2' gr)) HK
  rcases List.mem_append.1 ht with ht | ht
  · exact HK _ _ (h3 t ht).1 (h3 t ht).2
  · rw [List.mem_singleton] at ht
    subst ht
    exact HK _ _ hb hsf
theorem tot_rfs_eq (fs : FS) (k : Nat) (bs : List Nat) : totA (rfs fs k bs) = totA fs + (parts bs).length := by
  unfold rfs
  rw [sync_fs]
  have : ∀ gs : FS, totA (gs.map (fun t => if t.1 = nmS k then (t.1, t.2.1, t.2.1.length) else t)) = totA gs := fun gs => by
    induction gs with
    | nil => rfl
    | cons t gs ih =>
      show (if t.1 = nmS k then _ else t).2.1.length + totA _ = t.2.1.length + totA gs
      rw [ih]
      split <;> rfl
  rw [this, tot_apd]
theorem tot_afs_eq (fs : FS) (per lo : Nat) (rs : List Rc) (r : Rc) (hr : r.2.length = 32) : totA (afs fs per lo rs r) = totA fs + cn4 (r.1.length + 36) := by
  unfold afs
  rw [tot_rfs_eq, parts_len, cnt_sec _ _ _ hr]
/-- an Append that there is no room for -/
theorem append_st_full (w : World) (B p m R o : Nat) (fs : FS) (per lo lp : Nat) (rs : List Rc) (l0 : List Nat) (h : Dst w B p m R o fs per lo rs) (hg : Lg w lp p (gst per lo rs l0)) (hl0 : l0.length = 32 ∧ By l0) (hB : B ≤ lp) (v : Value) (pl : List Nat) (hp : Bs w v pl) (hs : SafeL w v) (h0 : 0 < pl.length) (hl : pl.length ≤ 4096) (hops : o ≤ 4611686018427387000) (hfew : lo + rs.length < 1000000) (hroom : room R fs per lo rs pl = false) :
    Calls Tryz.prog 9 #[.pointer (some ⟨lp, 0, none⟩), v] w fun r w' => r = .returned (.tuple #[.int .i64 0, .int .i64 17]) ∧ Dst w' B p m R o fs per lo rs ∧ Lg w' lp p (gst per lo rs l0) ∧ Kel w w' ∧ Below B w w' := by
  have hpr := h.per
  have hfw := h.few
  have hd := Nat.div_le_self rs.length per
  have hsg := gst_sgm per lo rs l0 hpr.1
  have hnx := gst_next per lo rs l0
  have hmu : lo * per + rs.length ≤ 2000000000 := by
    have h1 : lo * per ≤ 1000000 * 1000 := Nat.mul_le_mul (by omega) hpr.2
    omega
  have hok : (gst per lo rs l0).ok := ⟨by rw [gst_per]; exact hpr, by rw [gst_low]; omega, by
    show lo + (rs.length - 1) / per ≤ _
    have := Nat.div_le_self (rs.length - 1) per
    omega, by rw [hnx]; omega⟩
  have hgl : (gst per lo rs l0).last.length = 32 ∧ By (gst per lo rs l0).last := adv_last ⟨per, lo, lo, lo * per + 1, l0, false⟩ rs hl0 h.rok
  have hap : apnd ⟨R, o, 0, true, none, fs⟩ (nmS (sgm (gst per lo rs l0))) (secL (gst per lo rs l0).next pl (chn (gst per lo rs l0).ahd pl)) = (17, ⟨R, o, 0, true, none, fs⟩) := by
    unfold apnd
    have hroom' : fitA R fs (nmS (lo + rs.length / per)) (cn4 (pl.length + 36)) = false := hroom
    rw [nmS_is, if_neg (by decide), cnt_sec _ _ _ (chn_len _ _), hsg, if_pos hroom']
  have hw : wrL ⟨R, o, 0, true, none, fs⟩ (gst per lo rs l0) pl (chn (gst per lo rs l0).ahd pl) = (17, ⟨R, o, 0, true, none, fs⟩, gst per lo rs l0) := by
    unfold wrL wl1
    rw [hap]
    rfl
  refine (lappend_ok w B p m lp _ (gst per lo rs l0) h.da hg hB hok hgl (gst_ended _ _ _ _) (by rw [hnx]; omega) (by rw [hsg]; omega) (by rw [hnx]; omega) h.pt h.tb v pl hp hs h0 hl hops (by show 0 ≤ _; omega)).mono ?_
  rintro e w' ⟨hk, hb, hd', hc⟩
  rw [hw] at hd' hc
  rcases hc with ⟨hn, _⟩ | ⟨_, rfl, hg'⟩
  · cases hn
  · refine ⟨rfl, ⟨hd', h.pt.on hb, h.tb.on hb, h.fil, h.lks, h.rok, hpr, hfw, h.emp⟩, ?_, hk, hb⟩
    have e1 : ({ gst per lo rs l0 with ended := decide (((17 : Nat), (⟨R, o, 0, true, none, fs⟩ : AD), gst per lo rs l0).1 = 18) } : LG) = gst per lo rs l0 := by
      show ({ gst per lo rs l0 with ended := false } : LG) = _
      rw [← gst_ended per lo rs l0]
    rw [e1] at hg'
    exact hg'
theorem room_iff {R : Nat} {fs : FS} {per lo : Nat} {rs : List Rc} {pl : List Nat} (h1 : fs.length < 64) : room R fs per lo rs pl = decide (cn4 (pl.length + 36) ≤ R - totA fs) := by
  unfold room fitA
  rw [decide_eq_false (show ¬ fs.length = 64 by omega), Bool.and_false]
  rfl
end Go.Proofs.YtkmdegmpffgplaaGreatDoor
