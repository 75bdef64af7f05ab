/- log XXXIII: Cut of up to 255 parts; bytes.Equal of two that are unlike; Join where the sectors are not those that Cut makes. -/
import Derived.Test.YtkmdegmpffgplaaGreatDoorLar
import Derived.Test.YtkmdegmpffgplaaGreatDoorLaq
import Derived.Test.YtkmdegmpffgplaaGreatDoorLab
import Derived.Test.YtkmdegmpffgplaaGreatDoorLah
namespace Go.Proofs.YtkmdegmpffgplaaGreatDoor
open Go.RowKit Go.Shelf pk
set_option linter.unusedVariables false
set_option linter.unusedSimpArgs false
attribute [local go_sem] Oper.semAt_some ext_cell ext_frozen ext_drew ext_of_drew ext_of_drewN ext_setCell ext_lt ext_lt1 ext_lt2 ext_lt3 lt_n2 lt_n3 lt_n4 lt_n5 lt_n6
theorem str_inj (xs ys : List Nat) (hx : By xs) (hy : By ys) (h : strOfNums (xs.map (fun n : Nat => (n : Int))) = strOfNums (ys.map (fun n : Nat => (n : Int)))) : xs = ys := by
  have h1 := congrArg (fun s : ByteArray => s.data.toList.map (·.toNat)) h
  simp only [strOfNums_data, List.map_map] at h1
  have e : ∀ zs : List Nat, By zs → zs.map ((fun x : UInt8 => x.toNat) ∘ (fun n : Int => UInt8.ofNat n.toNat) ∘ (fun n : Nat => (n : Int))) = zs := fun zs hz => by
    induction zs with
    | nil => rfl
    | cons z zs ih =>
      rw [List.map_cons, ih (fun x hx => hz x (List.mem_cons_of_mem _ hx))]
      congr 1
      have : z < 256 := hz z (List.mem_cons_self ..)
      show (UInt8.ofNat ((z : Int)).toNat).toNat = z
      rw [Int.toNat_natCast]
      show z % 256 = z
      omega
  rw [e xs hx, e ys hy] at h1
  exact h1
theorem conv_any (v : Value) (bs : List Nat) (w : World) (h : Bs w v bs) : (convert 22 9 v).run Tryz.prog w = .ok (.string (strOfNums (bs.map (fun n : Nat => (n : Int))))) w := by
  obtain ⟨_, a, c, rfl, h1, _, _, h4⟩ := h
  rcases Nat.eq_zero_or_pos bs.length with h0 | h0
  · obtain rfl : bs = [] := List.eq_nil_of_length_eq_zero h0
    show (convert 22 9 (.slice a 0 c)).run Tryz.prog w = .ok (.string (strOfNums (([] : List Nat).map (fun n : Nat => (n : Int))))) w
    rw [run_convert_bytes_string w 22 9 5 a 0 c Tryz.underlying22 Tryz.underlying5 Tryz.underlying9]
    cases a <;> simp [Conv.bytesToString, loadCells] <;> rfl
  · obtain ⟨b, off, rfl, _, hx⟩ := h4 h0
    exact run_convert_bytes_arg (P := Tryz.prog) w 22 5 Tryz.underlying22 Tryz.underlying5 b off bs.length c (bs.map (fun n : Nat => (n : Int))) (by simp) (fun i hi => by rw [hx i hi]; unfold bt; simp [List.getD, hi]) 9 Tryz.underlying9
theorem equal_diff (v u : Value) (xs ys : List Nat) (w : World) (h : Bs w v xs) (h2 : Bs w u ys) (hne : xs ≠ ys) :
    Calls Tryz.prog 130 #[v, u] w fun e w' => e = .returned (.bool false) ∧ w' = w := by
  have e1 := conv_any v xs w h
  have e2 := conv_any u ys w h2
  have hsn : strOfNums (xs.map (fun n : Nat => (n : Int))) ≠ strOfNums (ys.map (fun n : Nat => (n : Int))) := fun e => hne (str_inj xs ys h.byte h2.byte e)
  generalize strOfNums (xs.map (fun n : Nat => (n : Int))) = s1 at *
  generalize strOfNums (ys.map (fun n : Nat => (n : Int))) = s2 at *
  obtain ⟨_, a, c, rfl, _⟩ := h
  obtain ⟨_, a', c', rfl, _⟩ := h2
  generalize xs.length = n1 at *
  generalize ys.length = n2 at *
  have e3 : (s1.toList == s2.toList) = false := beq_eq_false_iff_ne.2 (fun e => hsn (by
    rw [ByteArray.toList_eq, ByteArray.toList_eq] at e
    exact _root_.ByteArray.ext (Array.toList_inj.1 e)))
  clear hne hsn
  go_enter Tryz.func130, Tryz.ntmps130
  go_wp2_with fail
  go_ret
  exact ⟨rfl, rfl⟩
set_option maxRecDepth 100000 in
set_option maxHeartbeats 4000000 in
theorem cut_okW (w : World) (num Bn : Nat) (hnum : num < 4294967296) (hN : VA w Bn [.int .u32 (num : Int)] 127) (mk : Nat) (hmk : mk < 256) (sa : Option Addr) (len cap : Nat) (bs : List Nat) (hb : Bs w (.slice sa len cap) bs) (hl : len ≤ 6120) :
    Calls Tryz.prog 89 #[.int .u8 (mk : Int), .slice sa len cap, .func (.func 110) #[] #[.pointer (some ⟨Bn, 0, none⟩)]] w fun e w' => (∃ u, e = .returned u ∧ OwnB w' w.heap.size u (cutB mk (hd6 num) bs)) ∧ Below w.heap.size w w' := by
  have HN : Hid (VA w Bn [.int .u32 (num : Int)] 127) := hN
  clear hN
  have HBS0 : Hid (Bs w (.slice sa len cap) bs) := hb
  obtain ⟨hby, a, c, e, hc1, hc2, _, h4⟩ := hb
  have hlen : len = bs.length := by injection e
  have hcap : len ≤ cap ∧ cap ≤ 9223372036854775807 ∧ len ≤ 140737488355328 := by injection e with _ e2 e3; subst e3; exact ⟨by omega, by omega, by omega⟩
  obtain ⟨b, off, hsa⟩ : ∃ b off, 0 < len → sa = some ⟨b, off, none⟩ := by
    by_cases h0 : 0 < len
    · obtain ⟨b, off, e2, _⟩ := h4 (by omega)
      injection e with e1 _ _
      exact ⟨b, off, fun _ => e1.trans e2⟩
    · exact ⟨0, 0, fun h => absurd h h0⟩
  have HLN : Hid (len = bs.length) := hlen
  have HBY : Hid (By bs) := hby
  obtain ⟨C, hC⟩ : ∃ C, C = cn4 len := ⟨_, rfl⟩
  have HC : Hid (C = cn4 len) := hC
  have dC : ((len : Int) + 24 - 1) / 24 = (C : Int) := by rw [hC]; unfold cn4; omega
  have hC6 : C ≤ 255 := by rw [hC]; unfold cn4; omega
  clear h4 e hby hlen hC
  obtain ⟨M, hM⟩ : ∃ M, M = 32 * C := ⟨_, rfl⟩
  have HM : Hid (M = 32 * C) := hM
  obtain ⟨ZR, hZR⟩ : ∃ ZR, ZR = (cl (List.replicate M 0)).toArray := ⟨_, rfl⟩
  have HZR : Hid (ZR = (cl (List.replicate M 0)).toArray) := hZR
  have hmkr : ∀ w', (Instr.makeSlice 22 (.int .i64 0) (.int .i64 ((C : Int) * 32))).run Tryz.prog w' = .ok (.slice (some ⟨w'.heap.size, 0, none⟩) 0 M) (w'.alloc (.cells ZR 5)) := fun w' => by
    have := mkY M (by omega) w'
    rw [show ((M : Nat) : Int) = (C : Int) * 32 by omega, ← hZR] at this
    exact this
  clear hM hZR
  refine (callsIn_wide (n := 8)).1 ?_
  have hF : ∀ f, Fence.wide.fn f := fun _ => trivial
  have hF1 := hF 106
  refine callsIn_of_wp_marks Tryz.func89 rfl trivial ?_ rfl
  simp only [Tryz.ntmps89, List.size_toArray, List.length_cons, List.length_nil, Nat.reduceAdd, Nat.reduceSub, Array.replicate_succ, Array.replicate_zero, List.push_toArray, List.append_toArray, List.nil_append, List.cons_append]
  gi_wp2_with (gi_at_call 106; refine (chunk_4 (8 - 1) _ _ _ _).mono ?_; rintro e w' ⟨rfl, rfl⟩)
  have b1 := (Below.refl w.heap.size w).alloc (Nat.le_refl _) (.cells #[.int .u8 (mk : Int)] 5)
  have b2 := b1.alloc b1.size (.cells #[.func (.func 110) #[] #[.pointer (some ⟨Bn, 0, none⟩)]] 153)
  have b3 := b2.alloc b2.size (.cells #[.int .i64 (C : Int)] 3)
  have b4 := b3.alloc b3.size (.cells ZR 5)
  have b5 := b4.alloc b4.size (.cells #[.slice (some ⟨w.heap.size + 1 + 1 + 1, 0, none⟩) 0 M] 22)
  have b6 := b5.alloc b5.size (.cells #[.int .i64 0] 3)
  have b7 := b6.alloc b6.size (.cells #[.slice sa len cap] 22)
  have b8 := b7.alloc b7.size (.cells #[.int .i64 24] 3)
  have v0 := (((((((va_new (w) [.int .u8 (mk : Int)] 5).alloc (.cells #[.func (.func 110) #[] #[.pointer (some ⟨Bn, 0, none⟩)]] 153)).alloc (.cells #[.int .i64 (C : Int)] 3)).alloc (.cells ZR 5)).alloc (.cells #[.slice (some ⟨w.heap.size + 1 + 1 + 1, 0, none⟩) 0 M] 22)).alloc (.cells #[.int .i64 0] 3)).alloc (.cells #[.slice sa len cap] 22)).alloc (.cells #[.int .i64 24] 3)
  have v1 := ((((((va_new ((w).alloc (.cells #[.int .u8 (mk : Int)] 5)) [.func (.func 110) #[] #[.pointer (some ⟨Bn, 0, none⟩)]] 153).alloc (.cells #[.int .i64 (C : Int)] 3)).alloc (.cells ZR 5)).alloc (.cells #[.slice (some ⟨w.heap.size + 1 + 1 + 1, 0, none⟩) 0 M] 22)).alloc (.cells #[.int .i64 0] 3)).alloc (.cells #[.slice sa len cap] 22)).alloc (.cells #[.int .i64 24] 3)
  have v2 := (((((va_new (((w).alloc (.cells #[.int .u8 (mk : Int)] 5)).alloc (.cells #[.func (.func 110) #[] #[.pointer (some ⟨Bn, 0, none⟩)]] 153)) [.int .i64 (C : Int)] 3).alloc (.cells ZR 5)).alloc (.cells #[.slice (some ⟨w.heap.size + 1 + 1 + 1, 0, none⟩) 0 M] 22)).alloc (.cells #[.int .i64 0] 3)).alloc (.cells #[.slice sa len cap] 22)).alloc (.cells #[.int .i64 24] 3)
  have v4 := (((va_new (((((w).alloc (.cells #[.int .u8 (mk : Int)] 5)).alloc (.cells #[.func (.func 110) #[] #[.pointer (some ⟨Bn, 0, none⟩)]] 153)).alloc (.cells #[.int .i64 (C : Int)] 3)).alloc (.cells ZR 5)) [.slice (some ⟨w.heap.size + 1 + 1 + 1, 0, none⟩) 0 M] 22).alloc (.cells #[.int .i64 0] 3)).alloc (.cells #[.slice sa len cap] 22)).alloc (.cells #[.int .i64 24] 3)
  have v5 := ((va_new ((((((w).alloc (.cells #[.int .u8 (mk : Int)] 5)).alloc (.cells #[.func (.func 110) #[] #[.pointer (some ⟨Bn, 0, none⟩)]] 153)).alloc (.cells #[.int .i64 (C : Int)] 3)).alloc (.cells ZR 5)).alloc (.cells #[.slice (some ⟨w.heap.size + 1 + 1 + 1, 0, none⟩) 0 M] 22)) [.int .i64 0] 3).alloc (.cells #[.slice sa len cap] 22)).alloc (.cells #[.int .i64 24] 3)
  have v6 := (va_new (((((((w).alloc (.cells #[.int .u8 (mk : Int)] 5)).alloc (.cells #[.func (.func 110) #[] #[.pointer (some ⟨Bn, 0, none⟩)]] 153)).alloc (.cells #[.int .i64 (C : Int)] 3)).alloc (.cells ZR 5)).alloc (.cells #[.slice (some ⟨w.heap.size + 1 + 1 + 1, 0, none⟩) 0 M] 22)).alloc (.cells #[.int .i64 0] 3)) [.slice sa len cap] 22).alloc (.cells #[.int .i64 24] 3)
  have v7 := va_new ((((((((w).alloc (.cells #[.int .u8 (mk : Int)] 5)).alloc (.cells #[.func (.func 110) #[] #[.pointer (some ⟨Bn, 0, none⟩)]] 153)).alloc (.cells #[.int .i64 (C : Int)] 3)).alloc (.cells ZR 5)).alloc (.cells #[.slice (some ⟨w.heap.size + 1 + 1 + 1, 0, none⟩) 0 M] 22)).alloc (.cells #[.int .i64 0] 3)).alloc (.cells #[.slice sa len cap] 22)) [.int .i64 24] 3
  have o3 : Own KY (((((w).alloc (.cells #[.int .u8 (mk : Int)] 5)).alloc (.cells #[.func (.func 110) #[] #[.pointer (some ⟨Bn, 0, none⟩)]] 153)).alloc (.cells #[.int .i64 (C : Int)] 3)).alloc (.cells ZR 5)) (w.heap.size + 1 + 1 + 1) (.slice (some ⟨w.heap.size + 1 + 1 + 1, 0, none⟩) 0 M) [] := ⟨by have := World.ownsRow_made (base := w.heap.size + 1 + 1 + 1) (e := 5) (size := 1) ((((w).alloc (.cells #[.int .u8 (mk : Int)] 5)).alloc (.cells #[.func (.func 110) #[] #[.pointer (some ⟨Bn, 0, none⟩)]] 153)).alloc (.cells #[.int .i64 (C : Int)] 3)) ZR M (by simp) (by unfold maxLen; have := HM.out; omega) (by rw [HZR.out]; simp [cl]); simp only [World.size_alloc] at this; exact this⟩
  have o8 := (((o3.alloc (.cells #[.slice (some ⟨w.heap.size + 1 + 1 + 1, 0, none⟩) 0 M] 22)).alloc (.cells #[.int .i64 0] 3)).alloc (.cells #[.slice sa len cap] 22)).alloc (.cells #[.int .i64 24] 3)
  simp only [World.size_alloc] at v0 v1 v2 v4 v5 v6 v7
  obtain ⟨Wl, hWl⟩ : ∃ Wl, Wl = ((((((((w).alloc (.cells #[.int .u8 (mk : Int)] 5)).alloc (.cells #[.func (.func 110) #[] #[.pointer (some ⟨Bn, 0, none⟩)]] 153)).alloc (.cells #[.int .i64 (C : Int)] 3)).alloc (.cells ZR 5)).alloc (.cells #[.slice (some ⟨w.heap.size + 1 + 1 + 1, 0, none⟩) 0 M] 22)).alloc (.cells #[.int .i64 0] 3)).alloc (.cells #[.slice sa len cap] 22)).alloc (.cells #[.int .i64 24] 3) := ⟨_, rfl⟩
  have hsz : Wl.heap.size = w.heap.size + 1 + 1 + 1 + 1 + 1 + 1 + 1 + 1 := by rw [hWl]; simp
  rw [← hWl] at v0 v1 v2 v4 v5 v6 v7 o8 b8 ⊢
  clear hWl o3 b1 b2 b3 b4 b5 b6 b7 hmkr
  generalize hX2 : w.heap.size + 1 + 1 + 1 + 1 + 1 + 1 + 1 = X2 at *
  generalize hX1 : w.heap.size + 1 + 1 + 1 + 1 + 1 + 1 = X1 at *
  generalize hB9 : w.heap.size + 1 + 1 + 1 + 1 + 1 = B9 at *
  generalize hB8 : w.heap.size + 1 + 1 + 1 + 1 = B8 at *
  generalize hBR : w.heap.size + 1 + 1 + 1 = BR at *
  generalize hB7 : w.heap.size + 1 + 1 = B7 at *
  generalize hB5 : w.heap.size + 1 = B5 at *
  obtain ⟨B3, hB3⟩ : ∃ B3, B3 = w.heap.size := ⟨_, rfl⟩
  rw [← hB3] at v0 ⊢
  have HNB : Hid (B3 = w.heap.size ∧ B5 = B3 + 1 ∧ B7 = B3 + 2 ∧ BR = B3 + 3 ∧ B8 = B3 + 4 ∧ B9 = B3 + 5 ∧ X1 = B3 + 6 ∧ X2 = B3 + 7 ∧ Wl.heap.size = B3 + 8) := ⟨hB3, by omega, by omega, by omega, by omega, by omega, by omega, by omega, by omega⟩
  clear hX2 hX1 hB9 hB8 hBR hB7 hB5 hB3
  have HBW : Hid (Below w.heap.size w Wl) := b8
  clear b8 hsz
  refine wpIn_rangeFunc_ownH rfl (by omega) (gf := 127) (lb := #[.pointer (some ⟨X1, 0, none⟩), .pointer (some ⟨X2, 0, none⟩)]) rfl trivial (enters_of Tryz.func127 (by kernel_rfl) rfl)
    (stops_4 (8 - 1) (by omega) X1 X2 b off len cap sa hsa hcap Wl (v6.cell 0 rfl) (v7.cell 0 rfl)) KpC.trans
    (fun V k o o' hk _ _ _ => ⟨World.cell?_of_block (World.putObj_heap_other (by have := HNB.out; dsimp only; omega)), World.cell?_of_block (World.putObj_heap_other (by have := HNB.out; dsimp only; omega))⟩) (Below.refl _ _) (fun _ => rfl)
    (CI w num Bn mk C bs B3 B5 B7 BR B8 B9 X1 X2 (.slice sa len cap)) (fun _ _ _ => False) (CI.own (by have := HNB.out; omega)) (fun _ _ _ _ _ h _ _ => h)
    ⟨v0, v1, v2, ⟨_, v4, o8⟩, v5, v6, v7, HBW.out⟩
    (fun x a' _ => a' = { tmps := #[.int .u8 (mk : Int), .slice sa len cap, .func (.func 110) #[] #[.pointer (some ⟨Bn, 0, none⟩)], .pointer (some ⟨B3, 0, none⟩), undef, .pointer (some ⟨B5, 0, none⟩), .slice none 0 0, .pointer (some ⟨B7, 0, none⟩), .pointer (some ⟨B8, 0, none⟩), .pointer (some ⟨B9, 0, none⟩), .slice (some ⟨b, off + 24 * x, none⟩) (min 24 (len - 24 * x)) (min 24 (len - 24 * x)), undef, undef, .slice sa len cap, .int .i64 (len : Int), .int .i64 ((len : Int) + 24), .int .i64 ((len : Int) + 24 - 1), .int .i64 (C : Int), .int .i64 (C : Int), .int .i64 ((C : Int) * 32), .slice (some ⟨BR, 0, none⟩) 0 M, .slice sa len cap, .func (.func 127) #[] #[.pointer (some ⟨X1, 0, none⟩), .pointer (some ⟨X2, 0, none⟩)], .slice (some ⟨b, off + 24 * x, none⟩) (min 24 (len - 24 * x)) (min 24 (len - 24 * x)), undef, undef, undef, undef, undef, undef, undef, undef, undef, undef, undef, undef, undef, undef, undef, undef, undef, undef, undef, undef, undef, undef], defers := [] }) (fun _ _ _ _ _ _ h _ _ => h)
    ?assign ?body ?done ?stop
  case assign =>
    rintro l' pre x V K hi hK
    unfold enc4 at hK ⊢
    gi_wp2
    exact hK _ _ (KeepsFrom.refl _ _) ⟨rfl, rfl⟩ hi rfl
  case body =>
    rintro l' pre x a' V hl' ⟨r, hr⟩ hI rfl hlt
    obtain ⟨v, h8, hO⟩ := hI.ex
    obtain ⟨va, vc, hv, hv1, hv2⟩ := hO.form
    rw [cutP_len] at hv hv1
    have HPL : Hid (pre.length < cn4 len) := hlt
    have hpl : pre.length ≤ 255 := by have := HC.out; omega
    have HI : Hid (CI w num Bn mk C bs B3 B5 B7 BR B8 B9 X1 X2 (.slice sa len cap) pre V) := hI
    have HP : Hid (Bs V (.slice (some ⟨b, off + 24 * x, none⟩) (min 24 (len - 24 * x)) (min 24 (len - 24 * x))) (prt4 bs x)) := bs_prt4 (HBS0.out.step hI.bel) hsa x
    generalize hm : min 24 (len - 24 * x) = m at *
    have HMM : Hid (min 24 (len - 24 * x) = m) := hm
    have hm24 : m ≤ 24 := by omega
    subst hv
    have HO : Hid (Own KY V BR (.slice va (32 * pre.length) vc) (cutP mk (fun i => (hd6 num) i C) bs pre)) := hO
    have HV8 : Hid (VA V B8 [.slice va (32 * pre.length) vc] 22) := h8
    have y3 := hI.v3.cell 0 (v := .int .u8 (mk : Int)) rfl
    have y5 := hI.v5.cell 0 (v := .func (.func 110) #[] #[.pointer (some ⟨Bn, 0, none⟩)]) rfl
    have y7 := hI.v7.cell 0 (v := .int .i64 (C : Int)) rfl
    have y9 := hI.v9.cell 0 (v := .int .i64 (pre.length : Int)) rfl
    have l3 := hI.v3.lt
    have l5 := hI.v5.lt
    have l7 := hI.v7.lt
    have l9 := hI.v9.lt
    clear hI hO h8 hm hlt
    generalize hpn : pre.length = pn at *
    have HPN : Hid (pre.length = pn) := hpn
    clear hpn
    gi_wp2
    have HV1 : Hid (VA (V.alloc (.cells #[.int .u8 (mk : Int), .int .u8 (m : Int), .int .u8 0, .int .u8 0, .int .u8 0, .int .u8 0, .int .u8 0, .int .u8 0, .int .u8 0, .int .u8 0, .int .u8 0, .int .u8 0, .int .u8 0, .int .u8 0, .int .u8 0, .int .u8 0, .int .u8 0, .int .u8 0, .int .u8 0, .int .u8 0, .int .u8 0, .int .u8 0, .int .u8 0, .int .u8 0, .int .u8 0, .int .u8 0, .int .u8 0, .int .u8 0, .int .u8 0, .int .u8 0, .int .u8 0, .int .u8 0] 70)) V.heap.size [.int .u8 (mk : Int), .int .u8 (m : Int), .int .u8 0, .int .u8 0, .int .u8 0, .int .u8 0, .int .u8 0, .int .u8 0, .int .u8 0, .int .u8 0, .int .u8 0, .int .u8 0, .int .u8 0, .int .u8 0, .int .u8 0, .int .u8 0, .int .u8 0, .int .u8 0, .int .u8 0, .int .u8 0, .int .u8 0, .int .u8 0, .int .u8 0, .int .u8 0, .int .u8 0, .int .u8 0, .int .u8 0, .int .u8 0, .int .u8 0, .int .u8 0, .int .u8 0, .int .u8 0] 70) := va_new V _ _
    have HB1 : Hid (Below V.heap.size V (V.alloc (.cells #[.int .u8 (mk : Int), .int .u8 (m : Int), .int .u8 0, .int .u8 0, .int .u8 0, .int .u8 0, .int .u8 0, .int .u8 0, .int .u8 0, .int .u8 0, .int .u8 0, .int .u8 0, .int .u8 0, .int .u8 0, .int .u8 0, .int .u8 0, .int .u8 0, .int .u8 0, .int .u8 0, .int .u8 0, .int .u8 0, .int .u8 0, .int .u8 0, .int .u8 0, .int .u8 0, .int .u8 0, .int .u8 0, .int .u8 0, .int .u8 0, .int .u8 0, .int .u8 0, .int .u8 0] 70))) := (Below.refl _ _).alloc (Nat.le_refl _) _
    generalize hV1 : V.alloc (.cells #[.int .u8 (mk : Int), .int .u8 (m : Int), .int .u8 0, .int .u8 0, .int .u8 0, .int .u8 0, .int .u8 0, .int .u8 0, .int .u8 0, .int .u8 0, .int .u8 0, .int .u8 0, .int .u8 0, .int .u8 0, .int .u8 0, .int .u8 0, .int .u8 0, .int .u8 0, .int .u8 0, .int .u8 0, .int .u8 0, .int .u8 0, .int .u8 0, .int .u8 0, .int .u8 0, .int .u8 0, .int .u8 0, .int .u8 0, .int .u8 0, .int .u8 0, .int .u8 0, .int .u8 0] 70) = V1 at *
    clear hV1
    have hhd : CallsIn (Fence.wide.inRound l') 5 Tryz.prog 110 #[.int .i64 (pn : Int), .int .i64 (C : Int), .pointer (some ⟨Bn, 0, none⟩)] V1 fun e w' => e = .returned (.agg #[.int .u8 ((num : Int) / 16777216), .int .u8 ((num : Int) / 65536 % 256), .int .u8 ((num : Int) / 256 % 256), .int .u8 ((num : Int) % 256), .int .u8 (pn : Int), .int .u8 (C : Int)]) ∧ Below V1.heap.size V1 w' := (callsIn_wide (n := 5)).2 (head_exp num pn C Bn (by omega) (by omega) hnum V1 ((HN.out.step HI.out.bel).step HB1.out))
    refine hhd.mono ?_
    rintro e V2 ⟨rfl, b2⟩
    have HB2 : Hid (Below V.heap.size V V2) := HB1.out.trans (b2.mono HB1.out.size)
    have HV2 : Hid (VA V2 V.heap.size [.int .u8 (mk : Int), .int .u8 (m : Int), .int .u8 0, .int .u8 0, .int .u8 0, .int .u8 0, .int .u8 0, .int .u8 0, .int .u8 0, .int .u8 0, .int .u8 0, .int .u8 0, .int .u8 0, .int .u8 0, .int .u8 0, .int .u8 0, .int .u8 0, .int .u8 0, .int .u8 0, .int .u8 0, .int .u8 0, .int .u8 0, .int .u8 0, .int .u8 0, .int .u8 0, .int .u8 0, .int .u8 0, .int .u8 0, .int .u8 0, .int .u8 0, .int .u8 0, .int .u8 0] 70) := HV1.out.step b2
    clear b2 hhd HV1 HB1
    gi_wp2
    have HTC : Hid (cl ((hd6 num) pn C) = [.int .u8 ((num : Int) / 16777216), .int .u8 ((num : Int) / 65536 % 256), .int .u8 ((num : Int) / 256 % 256), .int .u8 ((num : Int) % 256), .int .u8 (pn : Int), .int .u8 (C : Int)]) := hd6_cl num pn C hnum (by omega) (by omega)
    have VT0 : VA (V2.alloc (.cells #[.int .u8 ((num : Int) / 16777216), .int .u8 ((num : Int) / 65536 % 256), .int .u8 ((num : Int) / 256 % 256), .int .u8 ((num : Int) % 256), .int .u8 (pn : Int), .int .u8 (C : Int)] 184)) V2.heap.size (cl ((hd6 num) pn C)) 184 := by rw [HTC.out]; exact va_new V2 _ _
    have VS0 := HV2.out.alloc (.cells #[.int .u8 ((num : Int) / 16777216), .int .u8 ((num : Int) / 65536 % 256), .int .u8 ((num : Int) / 256 % 256), .int .u8 ((num : Int) % 256), .int .u8 (pn : Int), .int .u8 (C : Int)] 184)
    have B30 := HB2.out.alloc HB2.out.size (.cells #[.int .u8 ((num : Int) / 16777216), .int .u8 ((num : Int) / 65536 % 256), .int .u8 ((num : Int) / 256 % 256), .int .u8 ((num : Int) % 256), .int .u8 (pn : Int), .int .u8 (C : Int)] 184)
    have hg12 : V.heap.size < V2.heap.size := HV2.out.lt
    generalize V2.alloc (.cells #[.int .u8 ((num : Int) / 16777216), .int .u8 ((num : Int) / 65536 % 256), .int .u8 ((num : Int) / 256 % 256), .int .u8 ((num : Int) % 256), .int .u8 (pn : Int), .int .u8 (C : Int)] 184) = V3 at *
    generalize hg2 : V2.heap.size = g2 at *
    clear HV2 HB2 hg2
    have HB3 : Hid (Below V.heap.size V V3.drew) := B30.drew
    have VT3 : VA V3.drew g2 (cl ((hd6 num) pn C)) 184 := VA.drew VT0
    have VS3 : VA V3.drew V.heap.size [.int .u8 (mk : Int), .int .u8 (m : Int), .int .u8 0, .int .u8 0, .int .u8 0, .int .u8 0, .int .u8 0, .int .u8 0, .int .u8 0, .int .u8 0, .int .u8 0, .int .u8 0, .int .u8 0, .int .u8 0, .int .u8 0, .int .u8 0, .int .u8 0, .int .u8 0, .int .u8 0, .int .u8 0, .int .u8 0, .int .u8 0, .int .u8 0, .int .u8 0, .int .u8 0, .int .u8 0, .int .u8 0, .int .u8 0, .int .u8 0, .int .u8 0, .int .u8 0, .int .u8 0] 70 := VA.drew VS0
    clear VT0 VS0 B30
    obtain ⟨V4, hcp1, VS4, U4⟩ := cpRunO (rT := 3) (o := 2) (dL := 6) (dC := 30) (bs_va VT3 (hd6_by num pn C) (c := 6) (by simp [hd6]) (by omega)) (by simp [hd6]) VS3 (by simp [hd6])
    rw [show ((hd6 num) pn C).length = 6 from rfl] at hcp1 VS4
    refine region_round_held (fun _ => True) (by kernel_rfl) (by kernel_rfl) (fun h => by obtain ⟨_, _, h⟩ := h; exact h) trivial ?_
    intro hHeld
    generalize V3.drew = W3 at *
    refine takeD 0 34 (.slice (some ⟨V.heap.size, 2, none⟩) 6 30) (by exact rfl) rfl (by kernel_rfl) (by kernel_rfl) (by kernel_rfl) (fun _ _ _ h => h) (Or.inl ⟨by rfl, ?_⟩) (by assumption) ?_
    · intro wq hS
      go_simp
    try simp only [Act.put, List.setIfInBounds_toArray, List.set_cons_zero, List.set_cons_succ]
    refine takeD 1 35 (.slice (some ⟨g2, 0, none⟩) 6 6) (by exact rfl) rfl (by kernel_rfl) (by kernel_rfl) (by kernel_rfl) (fun _ _ _ h => h) (Or.inl ⟨by rfl, ?_⟩) (by assumption) ?_
    · intro wq hS
      go_simp
    try simp only [Act.put, List.setIfInBounds_toArray, List.set_cons_zero, List.set_cons_succ]
    refine wpAnyH_ready (rs := [2]) (by kernel_rfl) (by simp) ?_
    refine AllReadyH.cons (by exact rfl) (fun K hK => ?_) AllReadyH.nil
    go_simp
    refine hK.out _ _ trivial (fun _ => ?_)
    clear hK K
    try simp only [Act.put, List.setIfInBounds_toArray, List.set_cons_zero, List.set_cons_succ]
    refine wpAnyH_done (by kernel_rfl) ?_ _
    refine NoPanic.normal ?_
    have HB4 : Hid (Below V.heap.size V V4) := U4.bel HB3.out (Nat.le_refl _)
    have HPML : Hid ((prt4 bs x).length = m) := (show (prt4 bs x).length = m by rw [prt4_len, ← HLN.out]; exact HMM.out)
    obtain ⟨V5, hcp2, VS5, U5⟩ := cpRunO (rT := 3) (o := 8) (dL := 24) (dC := 24) (HP.out.step HB4.out) (by rw [HPML.out]; exact hm24) VS4 (by rw [HPML.out]; simp [hd6, cl]; omega)
    rw [sec_cells mk ((hd6 num) pn C) (prt4 bs x) rfl (by rw [HPML.out]; exact hm24) _ (by rw [HPML.out]; rfl)] at VS5
    rw [HPML.out] at hcp2
    have HB5 : Hid (Below V.heap.size V V5.drew) := (U5.bel HB4.out (Nat.le_refl _)).drew
    have HVS : Hid (VA V5.drew V.heap.size (cl (secB mk ((hd6 num) pn C) (prt4 bs x))) 70) := VA.drew VS5
    clear VS4 VS5 U4 U5 hcp1 VT3 VS3
    gi_wp2
    refine region_round_held (fun _ => True) (by kernel_rfl) (by kernel_rfl) (fun h => by obtain ⟨_, _, h⟩ := h; exact h) trivial ?_
    intro hHeld
    clear hcp2
    have hH8 := HV8.out.step HB5.out
    generalize V5.drew = W5 at *
    refine takeD 1 41 (.slice (some ⟨V.heap.size, 0, none⟩) 32 32) (by exact rfl) rfl (by kernel_rfl) (by kernel_rfl) (by kernel_rfl) (fun _ _ _ h => h) (Or.inl ⟨by rfl, ?_⟩) (by assumption) ?_
    · intro wq hS
      go_simp
    try simp only [Act.put, List.setIfInBounds_toArray, List.set_cons_zero, List.set_cons_succ]
    have z8 := hH8.cell 0 (v := .slice va (32 * pn) vc) rfl
    refine wpAnyH_ready (rs := [0]) (by kernel_rfl) (by simp) ?_
    refine AllReadyH.cons (by exact rfl) (fun K hK => ?_) AllReadyH.nil
    go_simp
    refine hK.out _ _ trivial (fun _ => ?_)
    clear hK K z8
    try simp only [Act.put, List.setIfInBounds_toArray, List.set_cons_zero, List.set_cons_succ]
    have ow5 := HO.out.step HB5.out
    have slS : Sl KY W5 (.slice (some ⟨V.heap.size, 0, none⟩) 32 32) (secB mk ((hd6 num) pn C) (prt4 bs x)) := slY HVS.out (secB_len _ _ _)
    have a3 := HI.out.v3.step HB5.out
    have a5 := HI.out.v5.step HB5.out
    have a7 := HI.out.v7.step HB5.out
    have a9 := HI.out.v9.step HB5.out
    have c1 := HI.out.x1.step HB5.out
    have c2 := HI.out.x2.step HB5.out
    refine wpAnyH_ready (rs := [2]) (by kernel_rfl) (by simp) ?_
    refine AllReadyH.cons (by exact rfl) (fun K hK => ?_) AllReadyH.nil
    refine appSd (K := KY) (by rfl) (some 42) rfl _ _ rfl BR (cutP mk (fun i => (hd6 num) i C) bs pre) (secB mk ((hd6 num) pn C) (prt4 bs x)) _ _ (by rfl) (by rfl) ow5 slS (fun n c e => by cases e) (by have := a9.lt; have := HNB.out; omega) (by rw [cutP_len, secB_len]; show (32 * pre.length + 32) * 1 ≤ _; have := HPN.out; omega) (by rw [cutP_len, secB_len]; have := HPN.out; omega) ?_
    intro v6 w6 o6 b6 g6
    have e3 := a3.grownO g6 ow5 (.inr (by have := HNB.out; omega))
    have e5 := a5.grownO g6 ow5 (.inr (by have := HNB.out; omega))
    have e7 := a7.grownO g6 ow5 (.inr (by have := HNB.out; omega))
    have e8 := hH8.grownO g6 ow5 (.inl (by decide))
    have e9 := a9.grownO g6 ow5 (.inl (by decide))
    have f1 := c1.grownO g6 ow5 (.inl (by decide))
    have f2 := c2.grownO g6 ow5 (.inl (by decide))
    obtain ⟨v6a, v6c, hv6, hv61, hv62⟩ := o6.form
    have HBB : Hid (Below V.heap.size V W5) := HB5.out
    have BT : But (fun i => i = B8 ∨ i = B9 ∨ (Value.slice va (32 * pn) vc).ownBlock = some i) V w6 := (below_but HBB.out _).trans (⟨g6.os, g6.tape, g6.output, g6.size, fun i hi hx => g6.block i hi (fun er => hx (.inr (.inr er.symm)))⟩ : But (fun i => i = B8 ∨ i = B9 ∨ (Value.slice va (32 * pn) vc).ownBlock = some i) W5 w6) (fun _ _ h => h)
    have HTY : Hid (∀ g, v6.ownBlock = some g → g ≠ B8 ∧ g ≠ B9) := (show ∀ g, v6.ownBlock = some g → g ≠ B8 ∧ g ≠ B9 from fun g hg => by
      rcases o6.own.2 with ⟨rfl, _⟩ | ⟨q', cap', cur, rfl, _, hq, _⟩
      · cases hg
      · cases hg
        refine ⟨fun er => ?_, fun er => ?_⟩
        · have er' : q' = B8 := er
          rw [er', e8.blk] at hq
          cases hq
        · have er' : q' = B9 := er
          rw [er', e9.blk] at hq
          cases hq)
    have HO6 : Hid (Own KY w6 BR v6 (cutP mk (fun i => (hd6 num) i C) bs pre ++ secB mk ((hd6 num) pn C) (prt4 bs x))) := o6
    generalize (cutP mk (fun i => (hd6 num) i C) bs pre ++ secB mk ((hd6 num) pn C) (prt4 bs x)).length = n6 at hv6 hv61
    subst hv6
    refine hK.out _ _ trivial (fun _ => ?_)
    clear hK K
    try simp only [Act.put, List.setIfInBounds_toArray, List.set_cons_zero, List.set_cons_succ]
    have z8 := e8.cell 0 (v := .slice va (32 * pn) vc) rfl
    have fz8 := e8.free 0
    refine wpAnyH_ready (rs := [3]) (by kernel_rfl) (by simp) ?_
    refine AllReadyH.cons (by exact rfl) (fun K hK => ?_) AllReadyH.nil
    go_simp
    refine hK.out _ _ trivial (fun _ => ?_)
    clear hK K
    refine wpAnyH_done (by kernel_rfl) ?_ _
    refine NoPanic.normal ?_
    have n38 : B3 ≠ B8 := by have := HNB.out; omega
    have n58 : B5 ≠ B8 := by have := HNB.out; omega
    have n78 : B7 ≠ B8 := by have := HNB.out; omega
    have n98 : B9 ≠ B8 := by have := HNB.out; omega
    have n18 : X1 ≠ B8 := by have := HNB.out; omega
    have n28 : X2 ≠ B8 := by have := HNB.out; omega
    have n39 : B3 ≠ B9 := by have := HNB.out; omega
    have n59 : B5 ≠ B9 := by have := HNB.out; omega
    have n79 : B7 ≠ B9 := by have := HNB.out; omega
    have n89 : B8 ≠ B9 := by have := HNB.out; omega
    have n19 : X1 ≠ B9 := by have := HNB.out; omega
    have n29 : X2 ≠ B9 := by have := HNB.out; omega
    have h3 := e3.set_other n38 0 (.slice v6a n6 v6c)
    have h5 := e5.set_other n58 0 (.slice v6a n6 v6c)
    have h7 := e7.set_other n78 0 (.slice v6a n6 v6c)
    have h8 := e8.set 0 (.slice v6a n6 v6c)
    have h9 := e9.set_other n98 0 (.slice v6a n6 v6c)
    have k1 := f1.set_other n18 0 (.slice v6a n6 v6c)
    have k2 := f2.set_other n28 0 (.slice v6a n6 v6c)
    have o7 := HO6.out.blk (w' := w6.setCell ⟨B8, 0, none⟩ (.slice v6a n6 v6c)) (fun g hg => (upd_set w6 B8 0 _).block g (HTY.out g hg).1)
    have B7' := BT.trans ((upd_set w6 B8 0 (.slice v6a n6 v6c)).but.mono (fun i h => (.inl h : i = B8 ∨ i = B9 ∨ (Value.slice va (32 * pn) vc).ownBlock = some i))) (fun _ _ h => h)
    generalize w6.setCell ⟨B8, 0, none⟩ (.slice v6a n6 v6c) = w7 at *
    have h9p := h9
    rw [HPN.out] at h9p
    have y9' := h9p.cell 0 (v := .int .i64 (pn : Int)) rfl
    have fz9 := h9.free 0
    have HPRE : Hid (CI w num Bn mk C bs B3 B5 B7 BR B8 B9 X1 X2 (.slice sa len cap) (pre ++ [x]) (w7.setCell ⟨B9, 0, none⟩ (.int .i64 ((pn : Int) + 1))) ∧ But (fun i => i = B8 ∨ i = B9 ∨ (Value.slice va (32 * pn) vc).ownBlock = some i) V (w7.setCell ⟨B9, 0, none⟩ (.int .i64 ((pn : Int) + 1)))) := by
      have BB := B7'.trans ((upd_set w7 B9 0 (.int .i64 ((pn : Int) + 1))).but.mono (fun i h => (.inr (.inl h) : i = B8 ∨ i = B9 ∨ (Value.slice va (32 * pn) vc).ownBlock = some i))) (fun _ _ h => h)
      refine ⟨⟨h3.set_other n39 0 _, h5.set_other n59 0 _, h7.set_other n79 0 _, ⟨_, h8.set_other n89 0 _, ?_⟩, ?_, k1.set_other n19 0 _, k2.set_other n29 0 _, ?_⟩, BB⟩
      · rw [cutP_snoc, HPN.out]
        exact o7.blk (fun g hg => (upd_set w7 B9 0 _).block g (HTY.out g hg).2)
      · have := h9.set 0 (.int .i64 ((pn : Int) + 1))
        rw [List.length_append, List.length_singleton, HPN.out]
        simpa using this
      · refine HI.out.bel.trans (BB.below HI.out.bel.size (fun i hi => ?_))
        have hNB := HNB.out
        rcases hi with hi | hi | hi
        · omega
        · omega
        · have := HO.out.block i hi
          omega
    clear h9p h3 h5 h7 h8 h9 k1 k2 o7 B7' a3 a5 a7 a9 c1 c2 e3 e5 e7 e8 e9 f1 f2 o6 b6 g6 slS ow5 BT hH8
    gi_wp2
    have HCE : Hid (∀ i, (i = B8 ∨ i = B9 ∨ (Value.slice va (32 * pn) vc).ownBlock = some i) → ∀ o, V.heap[i]? = some o → o.isCells = true) := fun i hi o ho => by
      rcases hi with rfl | rfl | hi
      · rw [HV8.out.blk] at ho; cases ho; rfl
      · rw [HI.out.v9.blk] at ho; cases ho; rfl
      · rcases HO.out.own.2 with ⟨e, _⟩ | ⟨q', cap', cur, e, _, hq, _⟩
        · rw [e] at hi; cases hi
        · rw [e] at hi
          cases hi
          have ho' : V.heap[q']? = some o := ho
          rw [hq] at ho'
          cases ho'
          rfl
    exact ⟨keeps_but HPRE.out.2 HCE.out, ⟨(HPRE.out.1.x1.cell 0 rfl).trans (HI.out.x1.cell 0 rfl).symm, (HPRE.out.1.x2.cell 0 rfl).trans (HI.out.x2.cell 0 rfl).symm⟩, HPRE.out.1⟩
  case done =>
    rintro D ys V hD rfl hI hK
    have hI2 := CI.own (w := w) (num := num) (Bn := Bn) (mk := mk) (C := C) (bs := bs) (B3 := B3) (B5 := B5) (B7 := B7) (BR := BR) (B8 := B8) (B9 := B9) (X1 := X1) (X2 := X2) (sl := .slice sa len cap) (Bz := Wl.heap.size) (by have := HNB.out; omega) _ V _ (some D) hI (grownBy_putObj' V D (.deferred none)) (fun r e => by cases e; exact ⟨hD, _, hK, rfl⟩)
    obtain ⟨v, h8, hO⟩ := hI.ex
    have z8 := h8.cell 0 (v := v) rfl
    gi_wp2
    refine ⟨by simp, .inl ⟨_, _, rfl, run_takeDeferred hK, ?_⟩⟩
    have hO2 := ownK_kept hO (grownBy_putObj' V D (.deferred none)) (fun r e => by cases e; exact ⟨_, hK, rfl⟩)
    rw [cutP_range] at hO2
    refine ⟨_, by simp [results, Tryz.results89, go_sem], ⟨v, rfl, ?_⟩, hI2.bel⟩
    have hcb : cutB mk (hd6 num) bs = cutK mk (fun i => (hd6 num) i C) bs (cn4 len) := by unfold cutB; rw [← HLN.out, ← HC.out]
    rw [hcb]
    refine (ownY hO2 ?_).lower (by have := HNB.out; omega)
    intro z hz
    obtain ⟨i, _, hz⟩ := List.mem_flatMap.1 hz
    exact secB_by mk hmk _ _ (hd6_by num _ _) ((HBY.out.drop _).take _) (by simp; omega) z hz
  case stop =>
    rintro D c pre V _ _ h _
    exact h.elim
set_option maxRecDepth 100000 in
set_option maxHeartbeats 4000000 in
theorem join_no (w : World) (num Bn : Nat) (hnum : num < 4294967296) (hN : VA w Bn [.int .u32 (num : Int)] 127) (mk : Nat) (hmk : mk < 256) (sa : Option Addr) (len cap C : Nat) (ss : List Nat) (hb : Bs w (.slice sa len cap) ss) (hss : ss.length = 32 * C) (hC6 : C ≤ 255) (hbad : joinK ss C = [] ∨ cutB mk (hd6 num) (joinK ss C) ≠ ss) :
    Calls Tryz.prog 112 #[.int .u8 (mk : Int), .slice sa len cap, .func (.func 110) #[] #[.pointer (some ⟨Bn, 0, none⟩)]] w fun e w' => e = .returned (.tuple #[.slice none 0 0, .bool false]) ∧ Below w.heap.size w w' := by
  have HN : Hid (VA w Bn [.int .u32 (num : Int)] 127) := hN
  have HBAD : Hid (joinK ss C = [] ∨ cutB mk (hd6 num) (joinK ss C) ≠ ss) := hbad
  clear hN hbad
  have HBS0 : Hid (Bs w (.slice sa len cap) ss) := hb
  obtain ⟨hby, a, c, e, hc1, hc2, _, h4⟩ := hb
  have hlen : len = 32 * C := by injection e with _ e2 _; rw [e2, hss]
  have hcap : len ≤ cap ∧ cap ≤ 9223372036854775807 ∧ len ≤ 140737488355328 := by injection e with _ e2 e3; subst e3; exact ⟨by omega, by omega, by omega⟩
  obtain ⟨b, off, hsa⟩ : ∃ b off, 0 < len → sa = some ⟨b, off, none⟩ := by
    by_cases h0 : 0 < len
    · obtain ⟨b, off, e2, _⟩ := h4 (by omega)
      injection e with e1 _ _
      exact ⟨b, off, fun _ => e1.trans e2⟩
    · exact ⟨0, 0, fun h => absurd h h0⟩
  have HLN : Hid (len = 32 * C ∧ ss.length = 32 * C ∧ cnt len = C) := ⟨hlen, hss, by rw [hlen]; unfold cnt; omega⟩
  have HBY : Hid (By ss) := hby
  have dC : (len : Int) / 32 = (C : Int) := by omega
  clear h4 e hby hc1 hc2 hss
  obtain ⟨M, hM⟩ : ∃ M, M = 24 * C := ⟨_, rfl⟩
  have HM : Hid (M = 24 * C) := hM
  obtain ⟨ZR, hZR⟩ : ∃ ZR, ZR = (cl (List.replicate M 0)).toArray := ⟨_, rfl⟩
  have HZR : Hid (ZR = (cl (List.replicate M 0)).toArray) := hZR
  have hmkr : ∀ w', (Instr.makeSlice 22 (.int .i64 0) (.int .i64 ((C : Int) * 24))).run Tryz.prog w' = .ok (.slice (some ⟨w'.heap.size, 0, none⟩) 0 M) (w'.alloc (.cells ZR 5)) := fun w' => by
    have := mkY M (by omega) w'
    rw [show ((M : Nat) : Int) = (C : Int) * 24 by omega, ← hZR] at this
    exact this
  clear hM hZR hlen
  refine (callsIn_wide (n := 8)).1 ?_
  have hF : ∀ f, Fence.wide.fn f := fun _ => trivial
  have hF1 := hF 106
  have hF2 := hF 89
  have hF3 := hF 130
  refine callsIn_of_wp_marks Tryz.func112 rfl trivial ?_ rfl
  simp only [Tryz.ntmps112, List.size_toArray, List.length_cons, List.length_nil, Nat.reduceAdd, Nat.reduceSub, Array.replicate_succ, Array.replicate_zero, List.push_toArray, List.append_toArray, List.nil_append, List.cons_append]
  gi_wp2_with (gi_at_call 106; refine (chunk_in (8 - 1) _ _ _ _).mono ?_; rintro e w' ⟨rfl, rfl⟩)
  have b1 := (Below.refl w.heap.size w).alloc (Nat.le_refl _) (.cells #[.slice none 0 0] 22)
  have b2 := b1.alloc b1.size (.cells #[.bool false] 4)
  have b3 := b2.alloc b2.size (.cells ZR 5)
  have b4 := b3.alloc b3.size (.cells #[.slice (some ⟨w.heap.size + 1 + 1, 0, none⟩) 0 M] 22)
  have b5 := b4.alloc b4.size (.cells #[.slice sa len cap] 22)
  have b6 := b5.alloc b5.size (.cells #[.int .i64 32] 3)
  have v0 := (((((va_new (w) [.slice none 0 0] 22).alloc (.cells #[.bool false] 4)).alloc (.cells ZR 5)).alloc (.cells #[.slice (some ⟨w.heap.size + 1 + 1, 0, none⟩) 0 M] 22)).alloc (.cells #[.slice sa len cap] 22)).alloc (.cells #[.int .i64 32] 3)
  have v1 := ((((va_new ((w).alloc (.cells #[.slice none 0 0] 22)) [.bool false] 4).alloc (.cells ZR 5)).alloc (.cells #[.slice (some ⟨w.heap.size + 1 + 1, 0, none⟩) 0 M] 22)).alloc (.cells #[.slice sa len cap] 22)).alloc (.cells #[.int .i64 32] 3)
  have v3 := ((va_new ((((w).alloc (.cells #[.slice none 0 0] 22)).alloc (.cells #[.bool false] 4)).alloc (.cells ZR 5)) [.slice (some ⟨w.heap.size + 1 + 1, 0, none⟩) 0 M] 22).alloc (.cells #[.slice sa len cap] 22)).alloc (.cells #[.int .i64 32] 3)
  have v4 := (va_new (((((w).alloc (.cells #[.slice none 0 0] 22)).alloc (.cells #[.bool false] 4)).alloc (.cells ZR 5)).alloc (.cells #[.slice (some ⟨w.heap.size + 1 + 1, 0, none⟩) 0 M] 22)) [.slice sa len cap] 22).alloc (.cells #[.int .i64 32] 3)
  have v5 := va_new ((((((w).alloc (.cells #[.slice none 0 0] 22)).alloc (.cells #[.bool false] 4)).alloc (.cells ZR 5)).alloc (.cells #[.slice (some ⟨w.heap.size + 1 + 1, 0, none⟩) 0 M] 22)).alloc (.cells #[.slice sa len cap] 22)) [.int .i64 32] 3
  have o3 : Own KY ((((w).alloc (.cells #[.slice none 0 0] 22)).alloc (.cells #[.bool false] 4)).alloc (.cells ZR 5)) (w.heap.size + 1 + 1) (.slice (some ⟨w.heap.size + 1 + 1, 0, none⟩) 0 M) [] := ⟨by have := World.ownsRow_made (base := w.heap.size + 1 + 1) (e := 5) (size := 1) (((w).alloc (.cells #[.slice none 0 0] 22)).alloc (.cells #[.bool false] 4)) ZR M (by simp) (by unfold maxLen; have := HM.out; omega) (by rw [HZR.out]; simp [cl]); simp only [World.size_alloc] at this; exact this⟩
  have o8 := ((o3.alloc (.cells #[.slice (some ⟨w.heap.size + 1 + 1, 0, none⟩) 0 M] 22)).alloc (.cells #[.slice sa len cap] 22)).alloc (.cells #[.int .i64 32] 3)
  simp only [World.size_alloc] at v0 v1 v3 v4 v5
  obtain ⟨Wl, hWl⟩ : ∃ Wl, Wl = ((((((w).alloc (.cells #[.slice none 0 0] 22)).alloc (.cells #[.bool false] 4)).alloc (.cells ZR 5)).alloc (.cells #[.slice (some ⟨w.heap.size + 1 + 1, 0, none⟩) 0 M] 22)).alloc (.cells #[.slice sa len cap] 22)).alloc (.cells #[.int .i64 32] 3) := ⟨_, rfl⟩
  have hsz : Wl.heap.size = w.heap.size + 1 + 1 + 1 + 1 + 1 + 1 := by rw [hWl]; simp
  rw [← hWl] at v0 v1 v3 v4 v5 o8 b6 ⊢
  clear hWl o3 b1 b2 b3 b4 b5 hmkr
  generalize hX2 : w.heap.size + 1 + 1 + 1 + 1 + 1 = X2 at *
  generalize hX1 : w.heap.size + 1 + 1 + 1 + 1 = X1 at *
  generalize hB8 : w.heap.size + 1 + 1 + 1 = B8 at *
  generalize hBR : w.heap.size + 1 + 1 = BR at *
  generalize hB7 : w.heap.size + 1 = B7 at *
  obtain ⟨B6, hB6⟩ : ∃ B6, B6 = w.heap.size := ⟨_, rfl⟩
  rw [← hB6] at v0 ⊢
  have HNB : Hid (B6 = w.heap.size ∧ B7 = B6 + 1 ∧ BR = B6 + 2 ∧ B8 = B6 + 3 ∧ X1 = B6 + 4 ∧ X2 = B6 + 5 ∧ Wl.heap.size = B6 + 6) := ⟨hB6, by omega, by omega, by omega, by omega, by omega, by omega⟩
  clear hX2 hX1 hB8 hBR hB7 hB6
  have HBW : Hid (Below w.heap.size w Wl) := b6
  clear b6 hsz
  refine wpIn_rangeFunc_ownH rfl (by omega) (gf := 127) (lb := #[.pointer (some ⟨X1, 0, none⟩), .pointer (some ⟨X2, 0, none⟩)]) rfl trivial (enters_of Tryz.func127 (by kernel_rfl) rfl)
    (stopsC (8 - 1) (by omega) X1 X2 b off len cap sa hsa hcap Wl (v4.cell 0 rfl) (v5.cell 0 rfl)) KpC.trans
    (fun V k o o' hk _ _ _ => ⟨World.cell?_of_block (World.putObj_heap_other (by have := HNB.out; dsimp only; omega)), World.cell?_of_block (World.putObj_heap_other (by have := HNB.out; dsimp only; omega))⟩) (Below.refl _ _) (fun _ => rfl)
    (JI w ss (cnt len) B6 B7 BR B8 X1 X2 (.slice sa len cap)) (fun _ _ _ => False) (JI.own (by have := HNB.out; omega)) (fun _ _ _ _ _ h _ _ => h)
    ⟨v0, v1, ⟨_, v3, o8⟩, v4, v5, HBW.out⟩
    (fun x a' _ => a' = { tmps := #[.int .u8 (mk : Int), .slice sa len cap, .func (.func 110) #[] #[.pointer (some ⟨Bn, 0, none⟩)], undef, undef, undef, .pointer (some ⟨B6, 0, none⟩), .pointer (some ⟨B7, 0, none⟩), .pointer (some ⟨B8, 0, none⟩), .slice (some ⟨b, off + 32 * cx (cnt len) x, none⟩) (min 32 (len - 32 * cx (cnt len) x)) (min 32 (len - 32 * cx (cnt len) x)), undef, .slice sa len cap, .int .i64 (len : Int), .int .i64 (C : Int), .int .i64 ((C : Int) * 24), .slice (some ⟨BR, 0, none⟩) 0 M, .slice sa len cap, .func (.func 127) #[] #[.pointer (some ⟨X1, 0, none⟩), .pointer (some ⟨X2, 0, none⟩)], .slice (some ⟨b, off + 32 * cx (cnt len) x, none⟩) (min 32 (len - 32 * cx (cnt len) x)) (min 32 (len - 32 * cx (cnt len) x)), undef, undef, undef, undef, undef, undef, undef, undef, undef, undef, undef, undef, undef, undef, undef, undef, undef, undef, undef, undef, undef, undef, undef, undef, undef, undef, undef], defers := [] }) (fun _ _ _ _ _ _ h _ _ => h)
    ?assign ?body ?done ?stop
  case assign =>
    rintro l' pre x V K hi hK
    unfold encC at hK ⊢
    gi_wp2
    exact hK _ _ (KeepsFrom.refl _ _) ⟨rfl, rfl⟩ hi rfl
  case body =>
    rintro l' pre x a' V hl' ⟨r, hr⟩ hI rfl hlt
    obtain ⟨v, h8, hO⟩ := hI.ex
    obtain ⟨va, vc, hv, hv1, hv2⟩ := hO.form
    obtain ⟨vn, hvn⟩ : ∃ vn, vn = (joinP ss (cnt len) pre).length := ⟨_, rfl⟩
    rw [← hvn] at hv hv1
    have hln := HLN.out
    have hpl : pre.length ≤ 20000 := by rw [hln.2.2] at hlt; omega
    have hyy : cx (cnt len) x < C := by have := cx_in (N := cnt len) (by omega) x; omega
    have HI : Hid (JI w ss (cnt len) B6 B7 BR B8 X1 X2 (.slice sa len cap) pre V) := hI
    have HP0 := bs_part (HBS0.out.step hI.bel) hsa (cx (cnt len) x)
    have HJS : Hid (joinP ss (cnt len) (pre ++ [x]) = joinP ss (cnt len) pre ++ pce ss (cx (cnt len) x)) := joinP_snoc ss (cnt len) pre x
    generalize cx (cnt len) x = y at *
    have hmin : min 32 (len - 32 * y) = 32 := by omega
    rw [hmin] at HP0 ⊢
    have hpl32 : (part ss y).length = 32 := by unfold part; rw [List.length_take, List.length_drop]; omega
    have HP : Hid (Bs V (.slice (some ⟨b, off + 32 * y, none⟩) 32 32) (part ss y)) := HP0
    obtain ⟨k1, hk1⟩ : ∃ k1, k1 = (part ss y).getD 1 0 := ⟨_, rfl⟩
    have hk1s : k1 = ss.getD (32 * y + 1) 0 := by rw [hk1]; unfold part; rw [List.getD_eq_getElem?_getD, List.getD_eq_getElem?_getD, List.getElem?_take_of_lt (by omega), List.getElem?_drop]
    have c1 := bs_cell HP.out 1 (by omega)
    rw [← hk1] at c1
    clear HP0
    have hk256 : k1 < 256 := by rw [hk1]; have := HP.out.byte; unfold By at this; rw [List.getD_eq_getElem?_getD, List.getElem?_eq_getElem (by omega)]; exact this _ (List.getElem_mem _)
    obtain ⟨z, hz⟩ : ∃ z, z = min k1 24 := ⟨_, rfl⟩
    have hmn := cut_min V k1 24 z (by omega) hz
    have hz24 : z ≤ 24 := by omega
    have dZ : min (k1 : Int) 24 = (z : Int) := by omega
    have dW : IntKind.i64.wrap (8 + (z : Int)) = 8 + (z : Int) := by unfold IntKind.wrap; simp [IntKind.signed, IntKind.bits]; omega
    have dA1 : (0 : Int) ≤ 8 + (z : Int) := by omega
    have dA2 : 8 + (z : Int) ≤ 32 := by omega
    have dB : (8 : Int) ≤ max (8 + (z : Int)) 0 := by omega
    have dT : ((8 : Int) + (z : Int)).toNat - 8 = z := by omega
    have HPC : Hid (((part ss y).drop 8).take z = pce ss y) := by
      show ((part ss y).drop 8).take z = pce ss y
      unfold pce part
      rw [← hk1s, ← hz, List.drop_take, List.take_take, List.drop_drop, show 32 * y + 8 = 32 * y + 8 from rfl]
      congr 1
      omega
    have HSUB : Hid (Bs V (.slice (some ⟨b, off + 32 * y + 8, none⟩) z (32 - 8)) (pce ss y)) := by
      have := bs_sub HP.out 8 z (by omega)
      rw [HPC.out] at this
      exact this
    subst hv
    have HO : Hid (Own KY V BR (.slice va vn vc) (joinP ss (cnt len) pre)) := hO
    have HV8 : Hid (VA V B8 [.slice va vn vc] 22) := h8
    have HVN : Hid (vn = (joinP ss (cnt len) pre).length) := hvn
    clear hI hO h8 hk1 hk1s hln hlt hvn hpl32 hmin hz
    gi_wp2
    have HB5 : Hid (Below V.heap.size V V.drew) := (Below.refl _ _).drew
    refine region_round_held (fun _ => True) (by kernel_rfl) (by kernel_rfl) (fun h => by obtain ⟨_, _, h⟩ := h; exact h) trivial ?_
    intro hHeld
    have hH8 := HV8.out.step HB5.out
    generalize V.drew = W5 at *
    refine takeD 1 28 (.slice (some ⟨b, off + 32 * y, none⟩) 32 32) (by exact rfl) rfl (by kernel_rfl) (by kernel_rfl) (by kernel_rfl) (fun _ _ _ h => h) (Or.inl ⟨by rfl, ?_⟩) (by assumption) ?_
    · intro wq hS
      go_simp
    try simp only [Act.put, List.setIfInBounds_toArray, List.set_cons_zero, List.set_cons_succ]
    refine takeD 2 29 (.int .i64 (z : Int)) (by exact rfl) rfl (by kernel_rfl) (by kernel_rfl) (by kernel_rfl) (fun _ _ _ h => h) (Or.inl ⟨by rfl, ?_⟩) (by assumption) ?_
    · intro wq hS
      go_simp
    try simp only [Act.put, List.setIfInBounds_toArray, List.set_cons_zero, List.set_cons_succ]
    refine takeD 3 30 (.int .i64 (8 + (z : Int))) (by exact rfl) rfl (by kernel_rfl) (by kernel_rfl) (by kernel_rfl) (fun _ _ _ h => h) (Or.inl ⟨by rfl, ?_⟩) (by assumption) ?_
    · intro wq hS
      go_simp
    try simp only [Act.put, List.setIfInBounds_toArray, List.set_cons_zero, List.set_cons_succ]
    refine takeD 4 31 (.slice (some ⟨b, off + 32 * y + 8, none⟩) z 24) (by exact rfl) rfl (by kernel_rfl) (by kernel_rfl) (by kernel_rfl) (fun _ _ _ h => h) (Or.inl ⟨by rfl, ?_⟩) (by assumption) ?_
    · intro wq hS
      go_simp
    try simp only [Act.put, List.setIfInBounds_toArray, List.set_cons_zero, List.set_cons_succ]
    have z8 := hH8.cell 0 (v := .slice va vn vc) rfl
    refine wpAnyH_ready (rs := [0]) (by kernel_rfl) (by simp) ?_
    refine AllReadyH.cons (by exact rfl) (fun K hK => ?_) AllReadyH.nil
    go_simp
    refine hK.out _ _ trivial (fun _ => ?_)
    clear hK K z8
    try simp only [Act.put, List.setIfInBounds_toArray, List.set_cons_zero, List.set_cons_succ]
    have ow5 := HO.out.step HB5.out
    have slS := bs_sl (HSUB.out.step HB5.out)
    have a6 := HI.out.v6.step HB5.out
    have a7 := HI.out.v7.step HB5.out
    have c1' := HI.out.x1.step HB5.out
    have c2' := HI.out.x2.step HB5.out
    refine wpAnyH_ready (rs := [5]) (by kernel_rfl) (by simp) ?_
    refine AllReadyH.cons (by exact rfl) (fun K hK => ?_) AllReadyH.nil
    refine appSd (K := KY) (by rfl) (some 32) rfl _ _ rfl BR (joinP ss (cnt len) pre) (pce ss y) _ _ (by rfl) (by rfl) ow5 slS (fun n c e => by cases e) (by have := c2'.lt; have := HNB.out; omega) (by have := joinP_len ss (cnt len) pre; have := pce_len ss y; show (_ + _) * 1 ≤ _; omega) (by have := joinP_len ss (cnt len) pre; have := pce_len ss y; omega) ?_
    intro v6 w6 o6 b6 g6
    have e6 := a6.grownO g6 ow5 (.inl (by decide))
    have e7 := a7.grownO g6 ow5 (.inl (by decide))
    have e8 := hH8.grownO g6 ow5 (.inl (by decide))
    have f1 := c1'.grownO g6 ow5 (.inl (by decide))
    have f2 := c2'.grownO g6 ow5 (.inl (by decide))
    obtain ⟨v6a, v6c, hv6, hv61, hv62⟩ := o6.form
    have BT : But (fun i => i = B8 ∨ (Value.slice va vn vc).ownBlock = some i) V w6 := (below_but HB5.out _).trans (⟨g6.os, g6.tape, g6.output, g6.size, fun i hi hx => g6.block i hi (fun er => hx (.inr er.symm))⟩ : But (fun i => i = B8 ∨ (Value.slice va vn vc).ownBlock = some i) W5 w6) (fun _ _ h => h)
    have HTY : Hid (∀ g, v6.ownBlock = some g → g ≠ B8) := (show ∀ g, v6.ownBlock = some g → g ≠ B8 from fun g hg => by
      rcases o6.own.2 with ⟨rfl, _⟩ | ⟨q', cap', cur, rfl, _, hq, _⟩
      · cases hg
      · cases hg
        intro er
        have er' : q' = B8 := er
        rw [er', e8.blk] at hq
        cases hq)
    have HO6 : Hid (Own KY w6 BR v6 (joinP ss (cnt len) pre ++ pce ss y)) := o6
    generalize (joinP ss (cnt len) pre ++ pce ss y).length = n6 at hv6 hv61
    subst hv6
    refine hK.out _ _ trivial (fun _ => ?_)
    clear hK K
    try simp only [Act.put, List.setIfInBounds_toArray, List.set_cons_zero, List.set_cons_succ]
    have z8 := e8.cell 0 (v := .slice va vn vc) rfl
    have fz8 := e8.free 0
    refine wpAnyH_ready (rs := [6]) (by kernel_rfl) (by simp) ?_
    refine AllReadyH.cons (by exact rfl) (fun K hK => ?_) AllReadyH.nil
    go_simp
    refine hK.out _ _ trivial (fun _ => ?_)
    clear hK K
    refine wpAnyH_done (by kernel_rfl) ?_ _
    refine NoPanic.normal ?_
    have n68 : B6 ≠ B8 := by have := HNB.out; omega
    have n78 : B7 ≠ B8 := by have := HNB.out; omega
    have n18 : X1 ≠ B8 := by have := HNB.out; omega
    have n28 : X2 ≠ B8 := by have := HNB.out; omega
    have HPRE : Hid (JI w ss (cnt len) B6 B7 BR B8 X1 X2 (.slice sa len cap) (pre ++ [x]) (w6.setCell ⟨B8, 0, none⟩ (.slice v6a n6 v6c)) ∧ But (fun i => i = B8 ∨ (Value.slice va vn vc).ownBlock = some i) V (w6.setCell ⟨B8, 0, none⟩ (.slice v6a n6 v6c))) := by
      have BB := BT.trans ((upd_set w6 B8 0 (.slice v6a n6 v6c)).but.mono (fun i h => (.inl h : i = B8 ∨ (Value.slice va vn vc).ownBlock = some i))) (fun _ _ h => h)
      refine ⟨⟨e6.set_other n68 0 _, e7.set_other n78 0 _, ⟨_, e8.set 0 _, ?_⟩, f1.set_other n18 0 _, f2.set_other n28 0 _, ?_⟩, BB⟩
      · rw [HJS.out]
        exact HO6.out.blk (fun g hg => (upd_set w6 B8 0 _).block g (HTY.out g hg))
      · refine HI.out.bel.trans (BB.below HI.out.bel.size (fun i hi => ?_))
        have hNB := HNB.out
        rcases hi with hi | hi
        · omega
        · have := HO.out.block i hi
          omega
    clear e6 e7 e8 f1 f2 o6 b6 g6 slS ow5 BT hH8 a6 a7 c1' c2'
    gi_wp2
    have HCE : Hid (∀ i, (i = B8 ∨ (Value.slice va vn vc).ownBlock = some i) → ∀ o, V.heap[i]? = some o → o.isCells = true) := fun i hi o ho => by
      rcases hi with rfl | hi
      · rw [HV8.out.blk] at ho; cases ho; rfl
      · rcases HO.out.own.2 with ⟨e, _⟩ | ⟨q', cap', cur, e, _, hq, _⟩
        · rw [e] at hi; cases hi
        · rw [e] at hi
          cases hi
          have ho' : V.heap[q']? = some o := ho
          rw [hq] at ho'
          cases ho'
          rfl
    exact ⟨keeps_but HPRE.out.2 HCE.out, ⟨(HPRE.out.1.x1.cell 0 rfl).trans (HI.out.x1.cell 0 rfl).symm, (HPRE.out.1.x2.cell 0 rfl).trans (HI.out.x2.cell 0 rfl).symm⟩, HPRE.out.1⟩
  case done =>
    rintro D ys V hD rfl hI hK
    obtain ⟨v, h8, hO⟩ := hI.ex
    rw [joinP_range _ _ _ (Nat.le_refl _), HLN.out.2.2] at hO
    have hlb : (joinK ss C).length ≤ 24 * C := by
      have h1 := joinP_len ss C (List.range C)
      rw [joinP_range ss C C (Nat.le_refl _), List.length_range] at h1
      exact h1
    have hbyb : By (joinK ss C) := by
      have h1 := joinP_by HBY.out C (List.range C)
      rw [joinP_range ss C C (Nat.le_refl _)] at h1
      exact h1
    obtain ⟨bs, hbs⟩ : ∃ bs, bs = joinK ss C := ⟨_, rfl⟩
    rw [← hbs] at hO hlb hbyb
    have HBAD2 : Hid (bs = [] ∨ cutB mk (hd6 num) bs ≠ ss) := (show _ ∨ _ from by rw [hbs]; exact HBAD.out)
    have HOB : Hid (OwnB V BR v bs) := ownY hO hbyb
    obtain ⟨va, vc, hv, hv1, hv2⟩ := hO.form
    obtain ⟨L, hL⟩ : ∃ L, L = bs.length := ⟨_, rfl⟩
    rw [← hL] at hv hv1
    have HL : Hid (L = bs.length) := hL
    subst hv
    have z8 := h8.cell 0 (v := .slice va L vc) rfl
    have HI : Hid (JI w ss (cnt len) B6 B7 BR B8 X1 X2 (.slice sa len cap) (List.range (cnt len)) V) := hI
    have HV8 : Hid (VA V B8 [.slice va L vc] 22) := h8
    have HKD : Hid (V.heap[D]? = some (.deferred (some []))) := hK
    have hLl : L ≤ 6120 := by omega
    have HBV : Hid (Bs V (.slice sa len cap) ss) := HBS0.out.step hI.bel
    clear hO h8 hI hK hbs hlb hbyb
    by_cases h0 : L = 0
    · have HL0 : Hid (L = 0) := h0
      have W1B : Hid (Below V.heap.size V V) := Below.refl _ _
      subst h0
      clear hL
      have y8 := (HV8.out.step W1B.out).cell 0 (v := .slice va 0 vc) rfl
      have V6 := HI.out.v6.step W1B.out
      have V7 := HI.out.v7.step W1B.out
      have y6 := V6.cell 0 (v := .slice none 0 0) rfl
      have g6 := V6.free 0
      have n76 : B7 ≠ B6 := by have := HNB.out; omega
      have V7' := V7.set_other n76 0 (.slice none 0 0)
      have y7 := V7'.cell 0 (v := .bool false) rfl
      have g7 := V7'.free 0
      have V6s := (V6.set 0 (.slice none 0 0)).set_other n76.symm 0 (.bool false)
      have V7s := V7'.set 0 (.bool false)
      have U2 : But (fun i => i = B6 ∨ i = B7) V ((V.setCell ⟨B6, 0, none⟩ (.slice none 0 0)).setCell ⟨B7, 0, none⟩ (.bool false)) := ((upd_set V B6 0 (.slice none 0 0)).but.mono (fun i h => .inl h)).trans ((upd_set _ B7 0 (.bool false)).but.mono (fun i h => (.inr h : i = B6 ∨ i = B7))) (fun _ _ h => h)
      have HKD2 : Hid (((V.setCell ⟨B6, 0, none⟩ (.slice none 0 0)).setCell ⟨B7, 0, none⟩ (.bool false)).heap[D]? = some (.deferred (some []))) := by
        have hDV : V.heap[D]? = some (.deferred (some [])) := HKD.out
        have h1 := ((W1B.out : Below V.heap.size V V).block D (hlt_of hDV)).trans hDV
        refine (U2.block D (hlt_of h1) (fun h => ?_)).trans h1
        rcases h with h | h
        · rw [h, V6.blk] at h1; cases h1
        · rw [h, V7.blk] at h1; cases h1
      have HBEL : Hid (Below w.heap.size w ((V.setCell ⟨B6, 0, none⟩ (.slice none 0 0)).setCell ⟨B7, 0, none⟩ (.bool false))) := (HI.out.bel.trans ((W1B.out : Below V.heap.size V V).mono HI.out.bel.size)).trans (U2.below (Nat.le_trans HI.out.bel.size (W1B.out : Below V.heap.size V V).size) (fun i h => by have hNB := HNB.out; rcases h with h | h <;> omega))
      clear U2 V7' V7 V6
      gi_wp2
      generalize (V.setCell ⟨B6, 0, none⟩ (.slice none 0 0)).setCell ⟨B7, 0, none⟩ (.bool false) = W9 at *
      refine ⟨by simp, .inl ⟨_, _, rfl, run_takeDeferred HKD2.out, ?_⟩⟩
      have hr2 : ∀ r, some D = some r → ∃ o, W9.heap[r]? = some o ∧ o.isCells = false := fun r e => by cases e; exact ⟨_, HKD2.out, rfl⟩
      have V6q := V6s.keptN (grownBy_putObj' W9 D (.deferred none)) hr2
      have V7q := V7s.keptN (grownBy_putObj' W9 D (.deferred none)) hr2
      have q6 := V6q.cell 0 (v := .slice none 0 0) rfl
      have q7 := V7q.cell 0 (v := .bool false) rfl
      have bq : Below w.heap.size w (W9.putObj D (.deferred none)) := HBEL.out.grown (grownBy_putObj' W9 D (.deferred none)) HBEL.out.size (fun k e => by cases e; have hNB := HNB.out; omega)
      refine ⟨.tuple #[.slice none 0 0, .bool false], ?_, rfl, bq⟩
      simp [results, Tryz.results112, go_sem, asAddr, q6, q7]
    · have d1 : ((L : Int) == 0) = false := by simp; omega
      have d2 : ((L : Int) = 0) = False := by simp; omega
      have HNE : Hid (cutB mk (hd6 num) bs ≠ ss ∧ 0 < L) := (show _ ∧ _ from by
        refine ⟨?_, by omega⟩
        rcases HBAD2.out with h | h
        · rw [h] at hL
          exact absurd hL h0
        · exact h)
      clear hL h0
      gi_wp2
      refine ((callsIn_wide (n := 7)).2 (cut_okW V num Bn hnum (HN.out.step HI.out.bel) mk hmk va L vc bs HOB.out.bs hLl)).mono ?_
      rintro e W1 ⟨⟨u, rfl, oU⟩, bU⟩
      obtain ⟨_, ua, uc, hu, hu1, hu2, _⟩ := oU.bs
      obtain ⟨un, hun⟩ : ∃ un, un = (cutB mk (hd6 num) bs).length := ⟨_, rfl⟩
      rw [← hun] at hu hu1
      have HUB : Hid (Bs W1 u (cutB mk (hd6 num) bs)) := oU.bs
      have HBU : Hid (Below V.heap.size V W1) := bU
      have HSB : Hid (Bs W1 (.slice sa len cap) ss) := HBV.out.step bU
      subst hu
      clear oU bU hun
      gi_wp2
      refine ((callsIn_wide (n := 7)).2 (equal_diff _ _ _ ss W1 HUB.out HSB.out HNE.out.1)).mono ?_
      rintro e W2 ⟨rfl, hw2⟩
      obtain rfl := hw2.symm
      have y8 := (HV8.out.step HBU.out).cell 0 (v := .slice va L vc) rfl
      have V6 := HI.out.v6.step HBU.out
      have V7 := HI.out.v7.step HBU.out
      have y6 := V6.cell 0 (v := .slice none 0 0) rfl
      have g6 := V6.free 0
      have n76 : B7 ≠ B6 := by have := HNB.out; omega
      have V7' := V7.set_other n76 0 (.slice none 0 0)
      have y7 := V7'.cell 0 (v := .bool false) rfl
      have g7 := V7'.free 0
      have V6s := (V6.set 0 (.slice none 0 0)).set_other n76.symm 0 (.bool false)
      have V7s := V7'.set 0 (.bool false)
      have U2 : But (fun i => i = B6 ∨ i = B7) W1 ((W1.setCell ⟨B6, 0, none⟩ (.slice none 0 0)).setCell ⟨B7, 0, none⟩ (.bool false)) := ((upd_set W1 B6 0 (.slice none 0 0)).but.mono (fun i h => .inl h)).trans ((upd_set _ B7 0 (.bool false)).but.mono (fun i h => (.inr h : i = B6 ∨ i = B7))) (fun _ _ h => h)
      have HKD2 : Hid (((W1.setCell ⟨B6, 0, none⟩ (.slice none 0 0)).setCell ⟨B7, 0, none⟩ (.bool false)).heap[D]? = some (.deferred (some []))) := by
        have hDV : V.heap[D]? = some (.deferred (some [])) := HKD.out
        have h1 := ((HBU.out : Below V.heap.size V W1).block D (hlt_of hDV)).trans hDV
        refine (U2.block D (hlt_of h1) (fun h => ?_)).trans h1
        rcases h with h | h
        · rw [h, V6.blk] at h1; cases h1
        · rw [h, V7.blk] at h1; cases h1
      have HBEL : Hid (Below w.heap.size w ((W1.setCell ⟨B6, 0, none⟩ (.slice none 0 0)).setCell ⟨B7, 0, none⟩ (.bool false))) := (HI.out.bel.trans ((HBU.out : Below V.heap.size V W1).mono HI.out.bel.size)).trans (U2.below (Nat.le_trans HI.out.bel.size (HBU.out : Below V.heap.size V W1).size) (fun i h => by have hNB := HNB.out; rcases h with h | h <;> omega))
      clear U2 V7' V7 V6
      gi_wp2
      generalize (W1.setCell ⟨B6, 0, none⟩ (.slice none 0 0)).setCell ⟨B7, 0, none⟩ (.bool false) = W9 at *
      refine ⟨by simp, .inl ⟨_, _, rfl, run_takeDeferred HKD2.out, ?_⟩⟩
      have hr2 : ∀ r, some D = some r → ∃ o, W9.heap[r]? = some o ∧ o.isCells = false := fun r e => by cases e; exact ⟨_, HKD2.out, rfl⟩
      have V6q := V6s.keptN (grownBy_putObj' W9 D (.deferred none)) hr2
      have V7q := V7s.keptN (grownBy_putObj' W9 D (.deferred none)) hr2
      have q6 := V6q.cell 0 (v := .slice none 0 0) rfl
      have q7 := V7q.cell 0 (v := .bool false) rfl
      have bq : Below w.heap.size w (W9.putObj D (.deferred none)) := HBEL.out.grown (grownBy_putObj' W9 D (.deferred none)) HBEL.out.size (fun k e => by cases e; have hNB := HNB.out; omega)
      refine ⟨.tuple #[.slice none 0 0, .bool false], ?_, rfl, bq⟩
      simp [results, Tryz.results112, go_sem, asAddr, q6, q7]
  case stop =>
    rintro D c pre V _ _ h _
    exact h.elim
end Go.Proofs.YtkmdegmpffgplaaGreatDoor
/- log XXXVI: a region that draws its order, in a function with a range over a function, outside of its rounds. -/
namespace Go.Proofs.YtkmdegmpffgplaaGreatDoor
open Go.RowKit
set_option linter.unusedVariables false

section
variable {P : Program} {ops : Array Oper} {Q : Exit → Act → World → Prop} {md : Region.Mode} {n : Nat}
theorem oper_plain {o : Oper} {a : Act} {w : World} {K : Act → World → Prop} (hd : ∀ c, o.op ≠ .defer c) (h : o.wp P a w K Q) : o.wpIn Fence.wide n P a w K Q := by
  refine ⟨fun _ _ => trivial, ?_⟩
  have e : o.semAt Fence.wide.round a.eval = execOp a.eval o := rfl
  rw [e]
  unfold Oper.wp at h
  generalize (execOp a.eval o).run P w = r at *
  cases r with
  | ok x w' =>
    cases x with
    | value v => exact h
    | skip => exact h
    | defer d => exact h
    | enter f args => exact ⟨fun e => (by cases e), callsIn_wide.2 h⟩
    | row r args =>
      refine ⟨fun e => (by cases e), fun c cs _ => ?_⟩
      obtain ⟨v, w'', h1, h2⟩ := h c cs
      exact ⟨v, w'', h1, stepsIn_wide.2 h2⟩
    | round => exact h.elim
    | _ => exact h
  | halt x w' => cases x <;> exact h
theorem wpOp_plain {i : Nat} {a : Act} {w : World} {K : Act → World → Prop} (hd : ∀ o c, ops[i]? = some o → o.op ≠ .defer c) (hq : ¬ LetsOut Q) (h : wpOp P ops Q i K a w) : wpOpIn Fence.wide n P ops Q i K a w := by
  unfold wpOp at h
  unfold wpOpIn
  cases ho : ops[i]? with
  | none => simpa [ho] using h
  | some o =>
    simp only [ho] at h ⊢
    split
    · rename_i hw
      simp only [hw, if_true] at h
      rcases h with h | h
      · exact oper_plain (fun c => hd o c ho) h
      · exact absurd h.2 hq
    · rename_i hw
      simp only [hw] at h
      exact ⟨fun _ _ => trivial, h⟩
theorem wpAny_plain (hd : ∀ (i : Nat) (o : Oper) (c : Call), ops[i]? = some o → o.op ≠ .defer c) (hq : ¬ LetsOut Q) : ∀ (fuel : Nat) (listed : Array Bool) (a : Act) (w : World), wpAny P md ops Q fuel listed a w → wpAnyIn Fence.wide n P md ops Q fuel listed a w
  | 0, listed, a, w, h => h
  | fuel + 1, listed, a, w, h => ⟨h.1, fun i hi => wpOpIn_mono (fun a' w' h' => wpAny_plain hd hq fuel _ a' w' h') (wpOp_plain (fun o c => hd i o c) hq (h.2 i hi))⟩
theorem region_plain {id : Nat} {a : Act} {w : World} (hm : P.follows .mixedOrders = true) (hd : noDefer ops = true) (hq : ¬ LetsOut Q)
    (h : wpAny P .any ops Q ops.size (Array.replicate ops.size false) a { w with drawn := w.drawn + 1 }) : (Code.region id ops true).wpIn Fence.wide n P Q a w :=
  wpIn_region_any hm (wpAny_plain (fun i o c => noDefer_spec hd i o c) hq _ _ _ _ h)
end
/-- .. what is loaded held by S -/
theorem region_plain_held {L : List Oper} {Q : Exit → Act → World → Prop} {n id : Nat} {a : Act} {w : World} (S : World → Prop) (hm : Tryz.prog.follows .mixedOrders = true) (hd : noDefer L.toArray = true) (hq : ¬ LetsOut Q) (hS : S w.drew)
    (h : S w.drew → wpAnyH Tryz.prog .any L.toArray (NoPanic Q) S L.toArray.size (Array.replicate L.toArray.size false) a w.drew) : (Code.region id L.toArray true).wpIn Fence.wide n Tryz.prog Q a w :=
  wpIn_mono (region_plain (Q := NoPanic Q) hm hd (fun ⟨a, w, h⟩ => hq ⟨a, w, h⟩) (wpAny_of_held _ _ _ _ (h hS))) NoPanic.imp
end Go.Proofs.YtkmdegmpffgplaaGreatDoor
