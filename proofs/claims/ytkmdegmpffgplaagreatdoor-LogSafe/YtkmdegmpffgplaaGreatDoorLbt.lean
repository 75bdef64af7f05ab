/- log XLVI: LogSafe's walk. -/
import Derived.Test.YtkmdegmpffgplaaGreatDoorLbq
import Derived.Test.YtkmdegmpffgplaaGreatDoorLbr
import Derived.Test.YtkmdegmpffgplaaGreatDoorLbs
namespace Go.Proofs.YtkmdegmpffgplaaGreatDoor
open Go.RowKit Go.Maps Go.Sort Go.Shelf pk
set_option linter.unusedVariables false
set_option linter.unusedSimpArgs false
theorem infoO5 : (Tryz.prog.info? 63).map (·.size) = some 5 := by kernel_rfl
theorem conv_u64 (n : Int) : ∃ z : Nat, ∀ w : World, (convert 2 65 (.int .i64 n)).run Tryz.prog w = .ok (.int .u64 (z : Int)) w := by
  have h0 : 0 ≤ IntKind.u64.wrap n := by
    unfold IntKind.wrap
    simp [IntKind.signed, IntKind.bits]
    omega
  refine ⟨(IntKind.u64.wrap n).toNat, fun w => ?_⟩
  rw [show (((IntKind.u64.wrap n).toNat : Nat) : Int) = IntKind.u64.wrap n by omega]
  unfold convert
  simp [go_sem, Tryz.underlying2, Tryz.underlying65]
theorem Bl.stp {w w' : World} {v : Value} {ks : List Bool} (h : Bl w v ks) (k : Below w.heap.size w w') : Bl w' v ks := (h.sl.step k).bl
theorem Sfe.few_up {x y : AD} {K t : Nat} {rs : List Rc} (h : Sfe x K rs t) (hf : Few y (t + 1)) (ht : t + 1 ≤ 80) : Sfe y K rs (t + 1) := ⟨hf, h.lks, h.rok, h.per, h.cnt, by have := h.len; omega, ht⟩
theorem Sfe.app {x y : AD} {K t : Nat} {rs : List Rc} {r : Rc} (h : Sfe x K rs t) (h1 : Rok r) (h2 : Lks K 0 (rs ++ [r])) (hf : Few y (t + 1)) (ht : t + 1 ≤ 80) (hc : (rs.length + 1) / K + 1 ≤ 60) : Sfe y K (rs ++ [r]) (t + 1) := ⟨hf, h2, fun q hq => by
  rcases List.mem_append.1 hq with hq | hq
  · exact h.rok q hq
  · rw [List.mem_singleton] at hq
    subst hq
    exact h1, h.per, by rw [List.length_append, List.length_singleton]; exact hc, by rw [List.length_append, List.length_singleton]; have := h.len; omega, ht⟩
/-- the states between two calls: on, with a log; off -/
def StS (w wr : World) (B p K : Nat) (rs : List Rc) (x : AD) (l un : Value) : Prop :=
  (∃ lp h M, l = .pointer (some ⟨lp, 0, none⟩) ∧ B ≤ lp ∧ h ≤ 1000 ∧ x.on = true ∧ x.und = none ∧ SF x.fs K rs M [] ∧ Lg wr lp p ((gst K 0 rs (List.replicate 32 0)).hi h) ∧ un = .slice none 0 0) ∨
  (∃ ur, x.on = false ∧ Rdy x K rs ur ∧ ∀ r, ur = some r → Rok r ∧ Lks K 0 (rs ++ [r]) ∧ ∃ a c, un = .slice (some a) r.1.length c ∧ Bs w un r.1)
theorem StS.step {w wr w' : World} {B p K : Nat} {rs : List Rc} {x : AD} {l un : Value} (h : StS w wr B p K rs x l un) (k : Below wr.heap.size wr w') : StS w w' B p K rs x l un := by
  rcases h with ⟨lp, h, M, h1, h2, h3, h4, h5, h6, h7, h8⟩ | h
  · exact Or.inl ⟨lp, h, M, h1, h2, h3, h4, h5, h6, h7.step k, h8⟩
  · exact Or.inr h
/-- append(want, p) -/
theorem appWantJ {w : World} {ops : Array Oper} {rest : List Oper} {o : Oper} {a : Act} {Q : Exit → Act → World → Prop} (hgd : o.guard = none) (s x : Operand)
    (ho : o.op = .call { callee := .builtin .append, args := #[s, x], argTypes := #[30, 30] })
    (w0 : World) (B : Nat) (ps : List (List Nat)) (v : Value) (pa : Option Addr) (L c : Nat) (bs : List Nat) (hs : a.eval s = v) (hx : a.eval x = .slice (some ⟨w.heap.size, 0, none⟩) 1 1)
    (hp : PayI w0 w B v ps) (hb : Bs w0 (.slice pa L c) bs ∨ (Bs w (.slice pa L c) bs ∧ SafeU w (.slice pa L c))) (hB : B ≤ w.heap.size) (hl : ps.length ≤ 1000000)
    (h : ∀ v' w', PayI w0 w' B v' (ps ++ [bs]) → Below B w w' → KeP w w' → (∀ B' u qs, Pay w B' u qs → (∀ g, v.ownBlock = some g → g < B') → Pay w' B' u qs) → wpList Tryz.prog ops Q rest (a.put o.dst v') w') :
    wpList Tryz.prog ops Q (o :: rest) a (w.alloc (.cells #[.slice pa L c] 22)) := by
  obtain ⟨ts, h1, h2, h3⟩ := hp.ex
  have l1 : ts.length = ps.length := by have := congrArg List.length h1; simpa using this
  have hL : L = bs.length := by
    rcases hb with hb | hb
    · exact hb.len.1
    · exact hb.1.len.1
  obtain rfl := hL
  refine appOneG (K := KT) hgd s x ho B ts v ⟨pa, c, bs⟩ hs hx h2 hB (by show (ts.length + 1) * 24 ≤ _; omega) (by omega) _ rfl (fun v' w' o' b' gr => ?_)
  have bA : Below w.heap.size w (w.alloc (.cells #[.slice pa bs.length c] 22)) := (Below.refl _ _).alloc (Nat.le_refl _) _
  have h2' := h2.alloc (.cells #[.slice pa bs.length c] 22)
  have HK : ∀ u cs, Bs w u cs → SafeU w u → Bs w' u cs ∧ SafeU w' u := fun u cs g1 g2 =>
    have g3 := g1.step bA
    have g4 := g2.kel (Kee.kel (Kee.bel bA))
    ⟨bs_grown g3 g4 h2' gr, g4.grown h2' gr⟩
  have HK2 : ∀ u cs, (Bs w0 u cs ∨ (Bs w u cs ∧ SafeU w u)) → (Bs w0 u cs ∨ (Bs w' u cs ∧ SafeU w' u)) := fun u cs g => by
    rcases g with g | g
    · exact Or.inl g
    · exact Or.inr (HK u cs g.1 g.2)
  refine h v' w' ⟨ts ++ [⟨pa, c, bs⟩], by rw [List.map_append, h1]; rfl, o', fun t ht => ?_⟩ b' ((KeP.bel bA).trans (KeP.grown h2' gr)) (fun B' u qs hq hlt => ?_)
  · rcases List.mem_append.1 ht with ht | ht
    · exact HK2 _ _ (h3 t ht)
    · rw [List.mem_singleton] at ht
      subst ht
      exact HK2 _ _ hb
  · obtain ⟨us, g1, g2, g3⟩ := hq.ex
    refine ⟨us, g1, g2.blk (fun g hg => ?_), fun t ht => HK _ _ (g3 t ht).1 (g3 t ht).2⟩
    have hgl := g2.lt g hg
    have hgb := g2.block g hg
    exact (gr.block g (by simp; omega) (fun e => by have := hlt g e.symm; omega)).trans (bA.block g hgl)
set_option maxRecDepth 100000 in
set_option maxHeartbeats 8000000 in
theorem safe_few (w : World) (hT : Pt10 w) (hTb : Tb w) (r : Nat) (hr : r < 256) (sa : Option Addr) (sn sc : Nat) (os : List OpL) (hs : Sl KOL w (.slice sa sn sc) os) (hos : ∀ o ∈ os, OpLIn w o ∧ OpLSz 140737488351232 o) (h50 : os.length ≤ 50) :
    Calls Tryz.prog 8 #[.int .u8 (r : Int), .slice sa sn sc] w fun e w' => e = .returned (.bool true) ∧ Below w.heap.size w w' := by
  have HT : Hid (Pt10 w ∧ Tb w) := ⟨hT, hTb⟩
  have HSU : Hid (Sl KOL w (.slice sa sn sc) os) := hs
  have HOS : Hid (∀ o ∈ os, OpLIn w o ∧ OpLSz 140737488351232 o) := hos
  obtain ⟨hsn, hsc⟩ : sn = os.length ∧ sn ≤ sc ∧ sc ≤ 9223372036854775807 := by
    obtain ⟨_, _, e, h1, h2, _⟩ := hs
    cases e
    exact ⟨rfl, h1, h2⟩
  obtain ⟨N, hN⟩ : ∃ N, N = os.length := ⟨_, rfl⟩
  have HN : Hid (N = os.length) := hN
  have hNN : N ≤ 9223372036854775807 := by omega
  rw [hsn, ← hN]
  rw [← hN] at h50
  have d50 : (N : Int) ≤ 50 := by omega
  obtain ⟨K, hK⟩ : ∃ n : Nat, 1 + (r : Int) % 6 = (n : Int) := ⟨1 + r % 6, by omega⟩
  have hK1 : 1 ≤ K ∧ K ≤ 7 := by omega
  have HKN : Hid (∀ n : Nat, n ≤ N → n ≤ 80 → n / K + 1 ≤ 60) := fun n h1 h2 => by
    have h3 := Nat.div_le_self n K
    omega
  clear hT hTb hs hos hsn hN
  go_enter Tryz.func8, Tryz.ntmps8
  go_wp2_with fail
  refine (awake_ok w HT.out.1 HT.out.2 HT.out.2.lt).mono ?_
  rintro e w1 ⟨rfl, b1⟩
  have HB1 := (show Hid _ from b1)
  clear b1
  go_wp2_with fail
  refine (new_any 20000 w1 (by omega) (by omega)).mono ?_
  rintro e w2 ⟨p, m, rfl, h2, b2⟩
  have HB2 : Hid (Below w.heap.size w w2) := HB1.out.trans (b2.mono HB1.out.size)
  have HBz : Hid (w.heap.size ≤ w1.heap.size) := HB1.out.size
  have HPT : Hid (PtB w1.heap.size w2 ∧ TbB w1.heap.size w2) := ⟨(ptB_of (HT.out.1.on HB1.out)).on b2, (tbB_of (HT.out.2.step HB1.out HT.out.2.lt) (Nat.le_trans HT.out.2.lt HB1.out.size)).on b2⟩
  have HD2 : Hid (Dst w2 w1.heap.size p m 20000 0 [] K 0 []) := dst_new h2 HPT.out.1 HPT.out.2 K (by omega)
  clear h2 b2
  unfold ptr
  generalize w1.heap.size = B at *
  go_wp2_with fail
  refine (open_st w2 B p m 20000 0 [] K 0 [] HD2.out (by simp)).mono ?_
  rintro e w3 ⟨lp0, u, hlp, rfl, hg, hp, b3⟩
  obtain ⟨ua0, uc0, hu0, hc0⟩ := hp.slice
  rw [show (([] : List Rc).map (·.1)).length = 0 from rfl] at hu0 hc0
  subst hu0
  have HX3 : Hid (DA w3 B p m ⟨20000, 0, 0, true, none, []⟩) := HD2.out.da.step b3
  have HB3 : Hid (Below B w2 w3) := b3.mono HD2.out.da.lt
  have HS3 : Hid (StS w w3 B p K [] ⟨20000, 0, 0, true, none, []⟩ (.pointer (some ⟨lp0, 0, none⟩)) (.slice none 0 0)) := Or.inl ⟨lp0, 0 + (([] : List Rc).length - 1) / K, 0, rfl, Nat.le_trans HD2.out.da.lt hlp, by have h1 := Nat.div_le_self (([] : List Rc).length - 1) K; have h2 : ([] : List Rc).length = 0 := rfl; omega, rfl, rfl, sf_new K, hg, rfl⟩
  have HF3 : Hid (Sfe ⟨20000, 0, 0, true, none, []⟩ K [] 0) := ⟨⟨rfl, Nat.zero_le _, Nat.zero_le _, Nat.zero_le _⟩, trivial, fun r hr => (by cases hr), by omega, by rw [show ([] : List Rc).length = 0 from rfl, Nat.zero_div]; omega, Nat.zero_le _, by omega⟩
  clear hlp hg hp b3
  go_wp2_with fail
  go_loopw [8, 11, 12, 54] (fun l ak un i wr => ∃ (k : Nat) (x : AD) (rs : List Rc), k ≤ N ∧ k ≤ 80 ∧ i = .int .i64 (k : Int) ∧ Hid (DA wr B p m x) ∧ Hid (Sfe x K rs k) ∧ Hid (PayI w wr B ak (rs.map (·.1))) ∧ Hid (Below B w2 wr) ∧ Hid (StS w wr B p K rs x l un)) (fun _ _ _ i _ => N - (intOf i).toNat)
  case atStart => exact ⟨0, ⟨20000, 0, 0, true, none, []⟩, [], Nat.zero_le _, by omega, rfl, HX3.out, HF3.out, payI_nil _ _ _, HB3.out, HS3.out⟩
  case round =>
    clear HX3 HB3 HS3 HF3
    obtain ⟨k, x, rs, hkN, hk80, rfl, HX, HSF, HP, HBW, HST⟩ := hrel
    have HWR : Hid (Below w.heap.size w wr) := HB2.out.trans (HBW.out.mono HBz.out)
    by_cases hlt : k < N
    rotate_left
    · have dk : (N : Int) ≤ (k : Int) := by omega
      go_wp2_with fail
      go_ret
      exact ⟨rfl, HWR.out⟩
    have dk : (k : Int) < (N : Int) := by omega
    obtain ⟨o, ho⟩ : ∃ o, os[k]? = some o := ⟨_, List.getElem?_eq_getElem (by rw [← HN.out]; exact hlt)⟩
    have hmem := List.mem_of_getElem? ho
    obtain ⟨b, off, rfl, hbl, hcell0⟩ := HSU.out.at k o ho
    have hcell : ∀ j u, o.cells[j]? = some u → wr.cell? ⟨b, off + k * 5 + j, none⟩ = some u := fun j u hj => (HWR.out.cell (p := ⟨b, off + k * 5 + j, none⟩) hbl).trans (hcell0 j u hj)
    have HCL : Hid (∀ j u, o.cells[j]? = some u → wr.cell? ⟨b, off + k * 5 + j, none⟩ = some u) := hcell
    have HOI : Hid (OpLIn w o ∧ OpLSz 140737488351232 o) := HOS.out o hmem
    have hk256 := HOI.out.1.k
    have hnn := HOI.out.1.n
    obtain ⟨_, _, _, hpe, hp1, hp2, _⟩ := HOI.out.1.p
    cases hpe
    clear hcell hcell0 hmem ho
    obtain ⟨ok, opa, opc, obs, on, odn, oka, okc, oks⟩ := o
    dsimp only at hk256 hp1 hp2 hnn
    obtain ⟨L, hL⟩ : ∃ L, L = min obs.length 300 := ⟨_, rfl⟩
    have HPS : Hid (Bs w (.slice opa L opc) (obs.take L) ∧ (obs.take L).length = L) := ⟨HOI.out.1.p.cut L (by show L ≤ obs.length; omega), by rw [List.length_take]; omega⟩
    have HBL : Hid (Bl w (.slice oka oks.length okc) oks ∧ oks.length ≤ 140737488351232 ∧ (oka = none → okc = 0)) := ⟨HOI.out.1.f, HOI.out.2.2, HOI.out.1.no⟩
    obtain ⟨ps, hps⟩ : ∃ ps, ps = obs.take L := ⟨_, rfl⟩
    rw [← hps] at HPS
    clear hps HOI
    unfold OpL.cells at HCL
    dsimp only at HCL
    generalize obs.length = ln at *
    obtain ⟨kn, hkn⟩ : ∃ kn, kn = oks.length := ⟨_, rfl⟩
    have HKL : Hid (kn = oks.length) := hkn
    rw [← hkn] at HCL HBL
    clear hkn
    have hmin : ∀ w', (Builtin.min_ #[3, 3] 3 #[.int .i64 (ln : Int), .int .i64 300]).run Tryz.prog w' = .ok (.int .i64 (L : Int)) w' := fun w' => cut_min w' ln 300 L (by omega) hL
    have e1 : (L : Int) ≤ (ln : Int) := by omega
    have e2 : (L : Int) ≤ (opc : Int) := by omega
    have e3 : L ≤ 300 := by omega
    clear hL
    have HS0 := (show Hid _ from va_new wr ([.int .u8 0, .slice none 0 0, .int .i64 0, .bool false, .slice none 0 0] : List Value) 63)
    by_cases h80 : 80 ≤ k
    · have d80 : (80 : Int) ≤ (k : Int) := by omega
      go_wp2_with (first | (refine wpList_load_mid rfl 63 _ rfl b (off + k * 5) (by rfl) _ _ HCL.out Tryz.underlying63 rfl infoO5 ?_) | (refine stA rfl 63 _ _ rfl wr.heap.size (by rfl) ([.int .u8 0, .slice none 0 0, .int .i64 0, .bool false, .slice none 0 0] : List Value) [.int .u8 (ok : Int), .slice opa ln opc, .int .i64 on, .bool odn, .slice oka kn okc] (by rfl) 63 HS0.out infoO5 rfl (by intro v hv; simp at hv; rcases hv with rfl | rfl | rfl | rfl | rfl <;> rfl) ?_; intro w6 hv6 hu6; have HV6 := (show Hid _ from hv6); have HU6 : Hid (Below wr.heap.size wr w6) := hu6.bel ((Below.refl _ _).alloc (Nat.le_refl _) _) (Nat.le_refl _); clear hv6 hu6))
      go_ret
      exact ⟨rfl, HWR.out.trans (HU6.out.mono HWR.out.size)⟩
    have d80 : (k : Int) < 80 := by omega
    go_upto_region 15 with (first | (refine wpList_load_mid rfl 63 _ rfl b (off + k * 5) (by rfl) _ _ HCL.out Tryz.underlying63 rfl infoO5 ?_) | (refine stA rfl 63 _ _ rfl wr.heap.size (by rfl) ([.int .u8 0, .slice none 0 0, .int .i64 0, .bool false, .slice none 0 0] : List Value) [.int .u8 (ok : Int), .slice opa ln opc, .int .i64 on, .bool odn, .slice oka kn okc] (by rfl) 63 HS0.out infoO5 rfl (by intro v hv; simp at hv; rcases hv with rfl | rfl | rfl | rfl | rfl <;> rfl) ?_; intro w6 hv6 hu6; have HV6 := (show Hid _ from hv6); have HU6 : Hid (Below wr.heap.size wr w6) := hu6.bel ((Below.refl _ _).alloc (Nat.le_refl _) _) (Nat.le_refl _); clear hv6 hu6))
    have y1 := HV6.out.cell 1 (v := .slice opa ln opc) rfl
    have hbk := HV6.out.blk
    have hfz : w6.frozen? ⟨wr.heap.size, 1, none⟩ = false := by simp [World.frozen?, hbk]
    have HU7 : Hid (Below wr.heap.size wr (w6.setCell ⟨wr.heap.size, 1, none⟩ (.slice opa L opc))) := (upd_set w6 wr.heap.size 1 (.slice opa L opc)).bel HU6.out (Nat.le_refl _)
    have HV7 : Hid (VA (w6.setCell ⟨wr.heap.size, 1, none⟩ (.slice opa L opc)) wr.heap.size [.int .u8 (ok : Int), .slice opa L opc, .int .i64 on, .bool odn, .slice oka kn okc] 63) := HV6.out.set 1 (.slice opa L opc)
    have HX7 : Hid (DA (w6.setCell ⟨wr.heap.size, 1, none⟩ (.slice opa L opc)) B p m x) := HX.out.step HU7.out
    have HP7 : Hid (PayI w (w6.setCell ⟨wr.heap.size, 1, none⟩ (.slice opa L opc)) B u11 (rs.map (·.1))) := HP.out.step HU7.out
    have HST7 : Hid (StS w (w6.setCell ⟨wr.heap.size, 1, none⟩ (.slice opa L opc)) B p K rs x u8 u12) := HST.out.step HU7.out
    have HB7 : Hid (Below B w2 (w6.setCell ⟨wr.heap.size, 1, none⟩ (.slice opa L opc))) := HBW.out.trans (HU7.out.mono HX.out.lt)
    clear HS0 HU6 HU7
    generalize wr.heap.size = bo at *
    go_upto_region 17 with fail
    clear hbk hfz y1 HV6
    generalize hw7 : w6.setCell ⟨bo, 1, none⟩ (.slice opa L opc) = w7 at *
    clear hw7 HX HP HST HBW HWR HCL hmin
    have y0 := HV7.out.cell 0 (v := .int .u8 (ok : Int)) rfl
    have y1 := HV7.out.cell 1 (v := .slice opa L opc) rfl
    have y2 := HV7.out.cell 2 (v := .int .i64 on) rfl
    have hk4 : (ok : Int) % 4 = 0 ∨ (ok : Int) % 4 = 1 ∨ (ok : Int) % 4 = 2 ∨ (ok : Int) % 4 = 3 := by omega
    rcases hk4 with hk4 | hk4 | hk4 | hk4
    · clear y2
      rcases HST7.out with hst | hst
      · obtain ⟨lp, h, M, rfl, hlp, hh, hon, hu, hS, hg, rfl⟩ := hst
        have HON : Hid (B ≤ lp ∧ h ≤ 1000 ∧ x.on = true ∧ x.und = none ∧ SF x.fs K rs M [] ∧ Lg w7 lp p ((gst K 0 rs (List.replicate 32 0)).hi h)) := ⟨hlp, hh, hon, hu, hS, hg⟩
        clear hlp hh hu hS hg
        go_wp2_with fail
        refine (on_any w7 B p m x HX7.out).mono ?_
        rintro e wq ⟨rfl, hwq⟩
        obtain rfl := hwq.symm
        clear hwq
        rw [hon]
        go_wp2_with fail
        refine (twin_ok _ ps w7 (HPS.out.1.step (HB2.out.trans (HB7.out.mono HBz.out))) (by rw [HPS.out.2]; omega)).mono ?_
        rintro e w8 ⟨⟨v8, rfl, o8⟩, b8⟩
        have HO8 := (show Hid _ from o8)
        have HX8 : Hid (DA w8 B p m x) := HX7.out.step b8
        have HP8 : Hid (PayI w w8 B u11 (rs.map (·.1))) := HP7.out.step b8
        have HB8 : Hid (Below B w2 w8) := HB7.out.trans (b8.mono HX7.out.lt)
        have HV8 : Hid (VA w8 bo [.int .u8 (ok : Int), .slice opa L opc, .int .i64 on, .bool odn, .slice oka kn okc] 63) := HV7.out.step b8
        have HG8 : Hid (Lg w8 lp p ((gst K 0 rs (List.replicate 32 0)).hi h)) := HON.out.2.2.2.2.2.step b8
        obtain ⟨ua, uc, rfl⟩ : ∃ a c, v8 = .slice a L c := by
          obtain ⟨_, a, c, e, _⟩ := o8.bs
          rw [HPS.out.2] at e
          exact ⟨a, c, e⟩
        clear o8 b8 y1 y0
        go_wp2_with fail
        rcases Nat.eq_zero_or_pos L with hL0 | hL0
        · subst hL0
          refine (append_form w8 lp ua uc).mono ?_
          rintro e w9 ⟨rfl, hwq⟩
          obtain rfl := hwq.symm
          clear hwq
          have y1 := HV8.out.cell 1 (v := .slice opa 0 opc) rfl
          go_wp2_with fail
          go_roundw
          case rel => exact ⟨k + 1, x, rs, by omega, by omega, by go_num, HX8.out, HSF.out.few_up HSF.out.few.up (by omega), HP8.out, HB8.out, Or.inl ⟨lp, h, M, rfl, HON.out.1, HON.out.2.1, HON.out.2.2.1, HON.out.2.2.2.1, HON.out.2.2.2.2.1, HG8.out, rfl⟩⟩
          case measure => simp [intOf]; omega
        · obtain ⟨xn, hxn⟩ : ∃ X, X = rs.length + 1 := ⟨_, rfl⟩
          have HXN : Hid (xn = rs.length + 1) := hxn
          obtain ⟨pa2, pc2, hpv, hpc⟩ := HP8.out.form
          rw [List.length_map] at hpv hpc
          obtain ⟨RN, hRN⟩ : ∃ n, n = rs.length := ⟨_, rfl⟩
          rw [← hRN] at hpv hpc
          subst hpv
          have HRN : Hid (RN = rs.length) := hRN
          have hx1 : (RN : Int) + 1 = (xn : Int) := by omega
          have hrn80 : RN ≤ 80 := by have h1 := HSF.out.len; omega
          have hA := safe_append w8 B p m lp x K M k h rs (List.replicate 32 0) l0_ok HX8.out HON.out.2.2.1 HON.out.2.2.2.1 HSF.out HON.out.2.2.2.2.1 HG8.out HON.out.2.1 HON.out.1 (HPT.out.1.on HB8.out) (HPT.out.2.on HB8.out) (.slice ua L uc) ps HO8.out.bs HO8.out.safeL (by rw [HPS.out.2]; omega) (by rw [HPS.out.2]; omega)
          rw [← hxn] at hA
          clear hxn hRN
          refine Calls.mono hA ?_
          clear hA
          rintro e w9 ⟨x9, hX9, hF9, hk9, hb9, hcs⟩
          obtain ⟨ru, hru⟩ : ∃ r, r = mkR K 0 rs (List.replicate 32 0) ps := ⟨_, rfl⟩
          rw [← hru] at hcs
          have hr1 : ru.1 = ps := by rw [hru]; simp only [mkR]
          have HRU : Hid (ru.1 = ps ∧ Rok ru ∧ Lks K 0 (rs ++ [ru])) := (show _ ∧ _ ∧ _ from by
            refine ⟨hr1, ?_, ?_⟩
            · rw [hru]
              exact mkR_ok HO8.out.bs.byte (by rw [HPS.out.2]; omega) (by rw [HPS.out.2]; omega)
            · have h1 := lks_app (HSF.out.lks) ps _ (List.replicate 32 0) rfl
              have h2 : ru = (ps, chn (gst K 0 rs (List.replicate 32 0)).ahd ps) := by rw [hru]; simp only [mkR]
              rw [h2]
              exact h1)
          have HX9 : Hid (DA w9 B p m x9) := hX9
          have HF9 := (show Hid _ from hF9)
          have HP9 : Hid (PayI w w9 B (.slice pa2 RN pc2) (rs.map (·.1))) := HP8.out.kl hk9
          have HB9 : Hid (Below B w2 w9) := HB8.out.trans hb9
          have HV9 : Hid (VA w9 bo [.int .u8 (ok : Int), .slice opa L opc, .int .i64 on, .bool odn, .slice oka kn okc] 63) := VA.kl HV8.out hk9 (by unfold Dt; decide) (by decide)
          have y1 := HV9.out.cell 1 (v := .slice opa L opc) rfl
          clear hru hr1 hX9 hF9 hk9 hb9 HO8 HG8 HP8 HB8 HX8 HV8
          rcases hcs with ⟨rfl, q1, q2, q3, q4⟩ | ⟨rfl, q1, q2⟩
          · have HQ : Hid (x9.on = true ∧ x9.und = none ∧ SF x9.fs K (rs ++ [ru]) (rs.length / K + 1) [] ∧ Lg w9 lp p ((gst K 0 (rs ++ [ru]) (List.replicate 32 0)).hi (rs.length / K))) := ⟨q1, q2, q3, q4⟩
            have HSZ : Hid (B ≤ w9.heap.size) := HX9.out.lt
            have HLR : Hid ((rs.map (·.1)).length ≤ 1000000) := (show (rs.map (·.1)).length ≤ 1000000 from by rw [List.length_map]; have := HSF.out.len; omega)
            have HPL : Hid ((rs ++ [ru]).map (·.1) = rs.map (·.1) ++ [ps]) := (show _ = _ from by rw [List.map_append, List.map_singleton, HRU.out.1])
            clear q1 q2 q3 q4
            go_wp2_with (at_builtin; refine appWantI (by rfl) _ _ rfl w B (rs.map (·.1)) (.slice pa2 RN pc2) opa L opc ps (by rfl) (by rfl) HP9.out (Or.inl HPS.out.1) HSZ.out HLR.out ?_; intro v7 w10 hp7 hb7 hk7)
            have HP10 : Hid (PayI w w10 B v7 ((rs ++ [ru]).map (·.1))) := (show PayI _ _ _ _ _ from by rw [HPL.out]; exact hp7)
            have HX10 : Hid (DA w10 B p m x9) := HX9.out.kep hk7
            have HG10 : Hid (Lg w10 lp p ((gst K 0 (rs ++ [ru]) (List.replicate 32 0)).hi (rs.length / K))) := Lg.kep HQ.out.2.2.2 hk7
            have HB10 : Hid (Below B w2 w10) := HB9.out.trans hb7
            have HSF2 : Hid (Sfe x9 K (rs ++ [ru]) (k + 1)) := HSF.out.app HRU.out.2.1 HRU.out.2.2 HF9.out (by omega) (by have h1 := HKN.out (rs.length + 1) (by have := HSF.out.len; omega) (by have := HSF.out.len; omega); exact h1)
            clear hp7 hb7 hk7 HP9 HX9 HB9
            go_wp2_with fail
            go_roundw
            case rel => exact ⟨k + 1, x9, rs ++ [ru], by omega, by omega, by go_num, HX10.out, HSF2.out, HP10.out, HB10.out, Or.inl ⟨lp, rs.length / K, rs.length / K + 1, rfl, HON.out.1, by have h1 := HSF.out.cnt; omega, HQ.out.1, HQ.out.2.1, HQ.out.2.2.1, HG10.out, rfl⟩⟩
            case measure => simp [intOf]; omega
          · have HQ : Hid (x9.on = false ∧ Rdy x9 K rs (some ru)) := ⟨q1, q2⟩
            clear q1 q2
            obtain ⟨a9, e9⟩ : ∃ a9, opa = some a9 := by
              obtain ⟨_, a', c', e, _, _, _, h4⟩ := HPS.out.1
              obtain ⟨b9, o9, e5, _⟩ := h4 (by rw [HPS.out.2]; omega)
              injection e with e6
              exact ⟨_, e6.trans e5⟩
            have HUN : Hid (∀ r, some ru = some r → Rok r ∧ Lks K 0 (rs ++ [r]) ∧ ∃ a c, Value.slice opa L opc = .slice (some a) r.1.length c ∧ Bs w (.slice opa L opc) r.1) := fun r e => by
              cases e
              refine ⟨HRU.out.2.1, HRU.out.2.2, a9, opc, ?_, ?_⟩
              · rw [HRU.out.1, HPS.out.2, e9]
              · rw [HRU.out.1]; exact HPS.out.1
            clear e9
            go_wp2_with fail
            go_roundw
            case rel => exact ⟨k + 1, x9, rs, by omega, by omega, by go_num, HX9.out, HSF.out.few_up HF9.out (by omega), HP9.out, HB9.out, Or.inr ⟨some ru, HQ.out.1, HQ.out.2, HUN.out⟩⟩
            case measure => simp [intOf]; omega
      · obtain ⟨ur, hon, _, _⟩ := hst
        go_wp2_with fail
        refine (on_any w7 B p m x HX7.out).mono ?_
        rintro e wq ⟨rfl, hwq⟩
        obtain rfl := hwq.symm
        clear hwq
        rw [hon]
        go_wp2_with fail
        go_roundw
        case rel => exact ⟨k + 1, x, rs, by omega, by omega, by go_num, HX7.out, HSF.out.few_up HSF.out.few.up (by omega), HP7.out, HB7.out, HST7.out⟩
        case measure => simp [intOf]; omega
    · clear y2
      rcases HST7.out with hst | hst
      · obtain ⟨lp, h, M, rfl, hlp, hh, hon, hu, hS, hg, rfl⟩ := hst
        have HON : Hid (B ≤ lp ∧ h ≤ 1000 ∧ x.on = true ∧ x.und = none ∧ SF x.fs K rs M [] ∧ Lg w7 lp p ((gst K 0 rs (List.replicate 32 0)).hi h)) := ⟨hlp, hh, hon, hu, hS, hg⟩
        clear hlp hh hu hS hg
        go_wp2_with fail
        refine (on_any w7 B p m x HX7.out).mono ?_
        rintro e wq ⟨rfl, hwq⟩
        obtain rfl := hwq.symm
        clear hwq
        rw [hon]
        go_wp2_with fail
        refine (twin_ok _ ps w7 (HPS.out.1.step (HB2.out.trans (HB7.out.mono HBz.out))) (by rw [HPS.out.2]; omega)).mono ?_
        rintro e w8 ⟨⟨v8, rfl, o8⟩, b8⟩
        have HO8 := (show Hid _ from o8)
        have HX8 : Hid (DA w8 B p m x) := HX7.out.step b8
        have HP8 : Hid (PayI w w8 B u11 (rs.map (·.1))) := HP7.out.step b8
        have HB8 : Hid (Below B w2 w8) := HB7.out.trans (b8.mono HX7.out.lt)
        have HV8 : Hid (VA w8 bo [.int .u8 (ok : Int), .slice opa L opc, .int .i64 on, .bool odn, .slice oka kn okc] 63) := HV7.out.step b8
        have HG8 : Hid (Lg w8 lp p ((gst K 0 rs (List.replicate 32 0)).hi h)) := HON.out.2.2.2.2.2.step b8
        obtain ⟨ua, uc, rfl⟩ : ∃ a c, v8 = .slice a L c := by
          obtain ⟨_, a, c, e, _⟩ := o8.bs
          rw [HPS.out.2] at e
          exact ⟨a, c, e⟩
        clear o8 b8 y1 y0
        go_wp2_with fail
        rcases Nat.eq_zero_or_pos L with hL0 | hL0
        · subst hL0
          refine (append_form w8 lp ua uc).mono ?_
          rintro e w9 ⟨rfl, hwq⟩
          obtain rfl := hwq.symm
          clear hwq
          have y1 := HV8.out.cell 1 (v := .slice opa 0 opc) rfl
          go_wp2_with fail
          go_roundw
          case rel => exact ⟨k + 1, x, rs, by omega, by omega, by go_num, HX8.out, HSF.out.few_up HSF.out.few.up (by omega), HP8.out, HB8.out, Or.inl ⟨lp, h, M, rfl, HON.out.1, HON.out.2.1, HON.out.2.2.1, HON.out.2.2.2.1, HON.out.2.2.2.2.1, HG8.out, rfl⟩⟩
          case measure => simp [intOf]; omega
        · obtain ⟨xn, hxn⟩ : ∃ X, X = rs.length + 1 := ⟨_, rfl⟩
          have HXN : Hid (xn = rs.length + 1) := hxn
          obtain ⟨pa2, pc2, hpv, hpc⟩ := HP8.out.form
          rw [List.length_map] at hpv hpc
          obtain ⟨RN, hRN⟩ : ∃ n, n = rs.length := ⟨_, rfl⟩
          rw [← hRN] at hpv hpc
          subst hpv
          have HRN : Hid (RN = rs.length) := hRN
          have hx1 : (RN : Int) + 1 = (xn : Int) := by omega
          have hrn80 : RN ≤ 80 := by have h1 := HSF.out.len; omega
          have hA := safe_append w8 B p m lp x K M k h rs (List.replicate 32 0) l0_ok HX8.out HON.out.2.2.1 HON.out.2.2.2.1 HSF.out HON.out.2.2.2.2.1 HG8.out HON.out.2.1 HON.out.1 (HPT.out.1.on HB8.out) (HPT.out.2.on HB8.out) (.slice ua L uc) ps HO8.out.bs HO8.out.safeL (by rw [HPS.out.2]; omega) (by rw [HPS.out.2]; omega)
          rw [← hxn] at hA
          clear hxn hRN
          refine Calls.mono hA ?_
          clear hA
          rintro e w9 ⟨x9, hX9, hF9, hk9, hb9, hcs⟩
          obtain ⟨ru, hru⟩ : ∃ r, r = mkR K 0 rs (List.replicate 32 0) ps := ⟨_, rfl⟩
          rw [← hru] at hcs
          have hr1 : ru.1 = ps := by rw [hru]; simp only [mkR]
          have HRU : Hid (ru.1 = ps ∧ Rok ru ∧ Lks K 0 (rs ++ [ru])) := (show _ ∧ _ ∧ _ from by
            refine ⟨hr1, ?_, ?_⟩
            · rw [hru]
              exact mkR_ok HO8.out.bs.byte (by rw [HPS.out.2]; omega) (by rw [HPS.out.2]; omega)
            · have h1 := lks_app (HSF.out.lks) ps _ (List.replicate 32 0) rfl
              have h2 : ru = (ps, chn (gst K 0 rs (List.replicate 32 0)).ahd ps) := by rw [hru]; simp only [mkR]
              rw [h2]
              exact h1)
          have HX9 : Hid (DA w9 B p m x9) := hX9
          have HF9 := (show Hid _ from hF9)
          have HP9 : Hid (PayI w w9 B (.slice pa2 RN pc2) (rs.map (·.1))) := HP8.out.kl hk9
          have HB9 : Hid (Below B w2 w9) := HB8.out.trans hb9
          have HV9 : Hid (VA w9 bo [.int .u8 (ok : Int), .slice opa L opc, .int .i64 on, .bool odn, .slice oka kn okc] 63) := VA.kl HV8.out hk9 (by unfold Dt; decide) (by decide)
          have y1 := HV9.out.cell 1 (v := .slice opa L opc) rfl
          clear hru hr1 hX9 hF9 hk9 hb9 HO8 HG8 HP8 HB8 HX8 HV8
          rcases hcs with ⟨rfl, q1, q2, q3, q4⟩ | ⟨rfl, q1, q2⟩
          · have HQ : Hid (x9.on = true ∧ x9.und = none ∧ SF x9.fs K (rs ++ [ru]) (rs.length / K + 1) [] ∧ Lg w9 lp p ((gst K 0 (rs ++ [ru]) (List.replicate 32 0)).hi (rs.length / K))) := ⟨q1, q2, q3, q4⟩
            have HSZ : Hid (B ≤ w9.heap.size) := HX9.out.lt
            have HLR : Hid ((rs.map (·.1)).length ≤ 1000000) := (show (rs.map (·.1)).length ≤ 1000000 from by rw [List.length_map]; have := HSF.out.len; omega)
            have HPL : Hid ((rs ++ [ru]).map (·.1) = rs.map (·.1) ++ [ps]) := (show _ = _ from by rw [List.map_append, List.map_singleton, HRU.out.1])
            clear q1 q2 q3 q4
            go_wp2_with (at_builtin; refine appWantI (by rfl) _ _ rfl w B (rs.map (·.1)) (.slice pa2 RN pc2) opa L opc ps (by rfl) (by rfl) HP9.out (Or.inl HPS.out.1) HSZ.out HLR.out ?_; intro v7 w10 hp7 hb7 hk7)
            have HP10 : Hid (PayI w w10 B v7 ((rs ++ [ru]).map (·.1))) := (show PayI _ _ _ _ _ from by rw [HPL.out]; exact hp7)
            have HX10 : Hid (DA w10 B p m x9) := HX9.out.kep hk7
            have HG10 : Hid (Lg w10 lp p ((gst K 0 (rs ++ [ru]) (List.replicate 32 0)).hi (rs.length / K))) := Lg.kep HQ.out.2.2.2 hk7
            have HB10 : Hid (Below B w2 w10) := HB9.out.trans hb7
            have HSF2 : Hid (Sfe x9 K (rs ++ [ru]) (k + 1)) := HSF.out.app HRU.out.2.1 HRU.out.2.2 HF9.out (by omega) (by have h1 := HKN.out (rs.length + 1) (by have := HSF.out.len; omega) (by have := HSF.out.len; omega); exact h1)
            clear hp7 hb7 hk7 HP9 HX9 HB9
            go_wp2_with fail
            go_roundw
            case rel => exact ⟨k + 1, x9, rs ++ [ru], by omega, by omega, by go_num, HX10.out, HSF2.out, HP10.out, HB10.out, Or.inl ⟨lp, rs.length / K, rs.length / K + 1, rfl, HON.out.1, by have h1 := HSF.out.cnt; omega, HQ.out.1, HQ.out.2.1, HQ.out.2.2.1, HG10.out, rfl⟩⟩
            case measure => simp [intOf]; omega
          · have HQ : Hid (x9.on = false ∧ Rdy x9 K rs (some ru)) := ⟨q1, q2⟩
            clear q1 q2
            obtain ⟨a9, e9⟩ : ∃ a9, opa = some a9 := by
              obtain ⟨_, a', c', e, _, _, _, h4⟩ := HPS.out.1
              obtain ⟨b9, o9, e5, _⟩ := h4 (by rw [HPS.out.2]; omega)
              injection e with e6
              exact ⟨_, e6.trans e5⟩
            have HUN : Hid (∀ r, some ru = some r → Rok r ∧ Lks K 0 (rs ++ [r]) ∧ ∃ a c, Value.slice opa L opc = .slice (some a) r.1.length c ∧ Bs w (.slice opa L opc) r.1) := fun r e => by
              cases e
              refine ⟨HRU.out.2.1, HRU.out.2.2, a9, opc, ?_, ?_⟩
              · rw [HRU.out.1, HPS.out.2, e9]
              · rw [HRU.out.1]; exact HPS.out.1
            clear e9
            go_wp2_with fail
            go_roundw
            case rel => exact ⟨k + 1, x9, rs, by omega, by omega, by go_num, HX9.out, HSF.out.few_up HF9.out (by omega), HP9.out, HB9.out, Or.inr ⟨some ru, HQ.out.1, HQ.out.2, HUN.out⟩⟩
            case measure => simp [intOf]; omega
      · obtain ⟨ur, hon, _, _⟩ := hst
        go_wp2_with fail
        refine (on_any w7 B p m x HX7.out).mono ?_
        rintro e wq ⟨rfl, hwq⟩
        obtain rfl := hwq.symm
        clear hwq
        rw [hon]
        go_wp2_with fail
        go_roundw
        case rel => exact ⟨k + 1, x, rs, by omega, by omega, by go_num, HX7.out, HSF.out.few_up HSF.out.few.up (by omega), HP7.out, HB7.out, HST7.out⟩
        case measure => simp [intOf]; omega
    · obtain ⟨uz, hcv⟩ := conv_u64 on
      obtain ⟨an, hna⟩ : ∃ an : Nat, (uz : Int) % 7 = (an : Int) := ⟨uz % 7, by omega⟩
      have han : an ≤ 6 := by omega
      clear hnn
      go_wp2_with fail
      refine (arm_any w7 B p m x HX7.out an (by omega)).mono ?_
      rintro e w8 ⟨rfl, LL⟩
      have HB8 : Hid (Below B w2 w8) := HB7.out.trans LL.2.2
      have HP8 : Hid (PayI w w8 B u11 (rs.map (·.1))) := HP7.out.kl (Kee.kel LL.2.1)
      rcases HST7.out with hst | hst
      · obtain ⟨lp, h, M, rfl, hlp, hh, hon, hu, hS, hg, rfl⟩ := hst
        rw [if_pos hon] at LL ⊢
        have HX8 : Hid (DA w8 B p m { x with left := an }) := LL.1
        have HQ : Hid (B ≤ lp ∧ h ≤ 1000 ∧ x.on = true ∧ x.und = none ∧ SF x.fs K rs M [] ∧ Lg w8 lp p ((gst K 0 rs (List.replicate 32 0)).hi h)) := ⟨hlp, hh, hon, hu, hS, hg.kee LL.2.1⟩
        have HSF2 : Hid (Sfe { x with left := an } K rs (k + 1)) := HSF.out.few_up ⟨HSF.out.few.room, by have := HSF.out.few.ops; show x.ops ≤ _; omega, han, by have := HSF.out.few.tot; show totA x.fs ≤ _; omega⟩ (by omega)
        clear hlp hh hon hu hS hg LL
        go_wp2_with fail
        go_roundw
        case rel => exact ⟨k + 1, { x with left := an }, rs, by omega, by omega, by go_num, HX8.out, HSF2.out, HP8.out, HB8.out, Or.inl ⟨lp, h, M, rfl, HQ.out.1, HQ.out.2.1, HQ.out.2.2.1, HQ.out.2.2.2.1, HQ.out.2.2.2.2.1, HQ.out.2.2.2.2.2, rfl⟩⟩
        case measure => simp [intOf]; omega
      · obtain ⟨ur, hon, hrd, hun⟩ := hst
        rw [if_neg (by rw [hon]; simp)] at LL ⊢
        have HX8 := (show Hid _ from LL.1)
        have HQ : Hid (StS w w8 B p K rs x u8 u12) := Or.inr ⟨ur, hon, hrd, hun⟩
        clear hon hrd hun LL
        go_wp2_with fail
        go_roundw
        case rel => exact ⟨k + 1, x, rs, by omega, by omega, by go_num, HX8.out, HSF.out.few_up HSF.out.few.up (by omega), HP8.out, HB8.out, HQ.out⟩
        case measure => simp [intOf]; omega
    · rcases HST7.out with hst | hst
      · obtain ⟨lp, h, M, rfl, hlp, hh, hon, hu, hS, hg, rfl⟩ := hst
        clear hlp hh hu hS hg
        go_wp2_with fail
        refine (on_any w7 B p m x HX7.out).mono ?_
        rintro e wq ⟨rfl, hwq⟩
        obtain rfl := hwq.symm
        clear hwq
        rw [hon]
        go_wp2_with fail
        go_roundw
        case rel => exact ⟨k + 1, x, rs, by omega, by omega, by go_num, HX7.out, HSF.out.few_up HSF.out.few.up (by omega), HP7.out, HB7.out, HST7.out⟩
        case measure => simp [intOf]; omega
      · obtain ⟨ur, hon, hrd, hun⟩ := hst
        have HOFF : Hid (x.on = false ∧ Rdy x K rs ur ∧ ∀ r, ur = some r → Rok r ∧ Lks K 0 (rs ++ [r]) ∧ ∃ a c, u12 = .slice (some a) r.1.length c ∧ Bs w u12 r.1) := ⟨hon, hrd, hun⟩
        clear hrd hun
        go_wp2_with fail
        refine (on_any w7 B p m x HX7.out).mono ?_
        rintro e wq ⟨rfl, hwq⟩
        obtain rfl := hwq.symm
        clear hwq
        rw [hon]
        obtain ⟨uz, hcv⟩ := conv_u64 on
        obtain ⟨an, hna⟩ : ∃ an : Nat, (uz : Int) % 4 = (an : Int) := ⟨uz % 4, by omega⟩
        have han : an ≤ 3 := by omega
        clear hnn
        have y3 := HV7.out.cell 3 (v := .bool odn) rfl
        have y4 := HV7.out.cell 4 (v := .slice oka kn okc) rfl
        go_wp2_with fail
        have hbl : Bl w7 (.slice oka kn okc) oks := HBL.out.1.stp (HB2.out.trans (HB7.out.mono HBz.out))
        refine (fate_ok w7 odn (.slice oka kn okc) oks hbl (by rw [← HKL.out]; have := HBL.out.2.1; omega) (fun n c e => by cases e; exact HBL.out.2.2 rfl)).mono ?_
        rintro e w8 ⟨⟨uf, rfl, hbf, hsf⟩, b8⟩
        have HX8 : Hid (DA w8 B p m x) := HX7.out.step b8
        have HP8 : Hid (PayI w w8 B u11 (rs.map (·.1))) := HP7.out.step b8
        have HB8 : Hid (Below B w2 w8) := HB7.out.trans (b8.mono HX7.out.lt)
        have HBF : Hid (Bl w8 uf oks ∧ Safe w8 uf) := ⟨hbf, hsf⟩
        have HV8 : Hid (VA w8 bo [.int .u8 (ok : Int), .slice opa L opc, .int .i64 on, .bool odn, .slice oka kn okc] 63) := HV7.out.step b8
        clear hbl hbf hsf b8 y0 y1 y2 y3 y4
        go_wp2_with fail
        refine (restart_off w8 B p m x HX8.out odn uf oks HBF.out.1 (by rw [← HKL.out]; have := HBL.out.2.1; omega) HBF.out.2 HOFF.out.1).mono ?_
        rintro e w9 ⟨rfl, ns, hns, _, LL⟩
        obtain ⟨M, hM⟩ := HOFF.out.2.1
        obtain ⟨T, hS, hsy, htt, hor⟩ := hM odn oks ns hns
        have hst0 := HSF.out.few
        have hfw : Few { x with on := true, und := none, fs := (stl oks ns (doUnd x odn)).1 } k := ⟨hst0.room, hst0.ops, hst0.left, Nat.le_trans htt hst0.tot⟩
        obtain ⟨x9, hx9⟩ : ∃ y : AD, y = { x with on := true, und := none, fs := (stl oks ns (doUnd x odn)).1 } := ⟨_, rfl⟩
        rw [← hx9] at LL hfw
        have e9 : x9.on = true ∧ x9.und = none ∧ x9.fs = (stl oks ns (doUnd x odn)).1 := by rw [hx9]; exact ⟨rfl, rfl, rfl⟩
        rw [← e9.2.2] at hS hsy
        have HX9 : Hid (DA w9 B p m x9) := LL.1
        have HP9 : Hid (PayI w w9 B u11 (rs.map (·.1))) := HP8.out.kl (Kee.kel LL.2.1)
        have HB9 : Hid (Below B w2 w9) := HB8.out.trans LL.2.2
        have HV9 : Hid (VA w9 bo [.int .u8 (ok : Int), .slice opa L opc, .int .i64 on, .bool odn, .slice oka kn okc] 63) := VA.kl HV8.out (Kee.kel LL.2.1) (by unfold Dt; decide) (by decide)
        have hon9 := e9.1
        have hn9 := e9.2.1
        have HS9 : Hid (SF x9.fs K rs M T ∧ Syn x9.fs M ∧ (Bad (1 + rs.length) T ∨ ∃ r, ur = some r ∧ T = secL (1 + rs.length) r.1 r.2) ∧ Few x9 k ∧ x9.on = true ∧ x9.und = none) := ⟨hS, hsy, hor, hfw, hon9, hn9⟩
        have z2 := HV9.out.cell 2 (v := .int .i64 on) rfl
        clear hns htt hM hst0 LL hx9 e9 hS hsy hor hfw hon9 hn9
        clear HX8 HP8 HB8 HV8 HBF
        go_wp2_with fail
        refine (arm_any w9 B p m x9 HX9.out an (by omega)).mono ?_
        rintro e w10 ⟨rfl, LL⟩
        have hon9 := HS9.out.2.2.2.2.1
        rw [if_pos hon9] at LL ⊢
        obtain ⟨x10, hx10⟩ : ∃ y : AD, y = { x9 with left := an } := ⟨_, rfl⟩
        rw [← hx10] at LL
        have HX10 : Hid (DA w10 B p m x10) := LL.1
        have HP10' : Hid (PayI w w10 B u11 (rs.map (·.1))) := HP9.out.kl (Kee.kel LL.2.1)
        have HB10 : Hid (Below B w2 w10) := HB9.out.trans LL.2.2
        have HQ9 : Hid (x10.on = true ∧ x10.und = none ∧ SF x10.fs K rs M T ∧ Syn x10.fs M ∧ (Bad (1 + rs.length) T ∨ ∃ r, ur = some r ∧ T = secL (1 + rs.length) r.1 r.2) ∧ Few x10 k) := (show _ ∧ _ from by
          rw [hx10]
          exact ⟨hon9, HS9.out.2.2.2.2.2, HS9.out.1, HS9.out.2.1, HS9.out.2.2.1, ⟨HS9.out.2.2.2.1.room, HS9.out.2.2.2.1.ops, (show an ≤ 6 by omega), HS9.out.2.2.2.1.tot⟩⟩)
        clear LL hx10 hon9 z2
        clear HX9 HP9 HB9 HV9 HS9
        obtain ⟨pa2, pc2, hpv, hpc⟩ := HP10'.out.form
        rw [List.length_map] at hpv hpc
        obtain ⟨RN, hRN⟩ : ∃ n, n = rs.length := ⟨_, rfl⟩
        rw [← hRN] at hpv hpc
        subst hpv
        have HP10 := HP10'
        have HRN : Hid (RN = rs.length) := hRN
        have hrn80 : RN ≤ 80 := by have h1 := HSF.out.len; omega
        have HB0 : Hid (Below w.heap.size w w10) := HB2.out.trans (HB10.out.mono HBz.out)
        clear hRN HP10' hcv
        go_wp2_with fail
        rcases HQ9.out.2.2.2.2.1 with hbad | ⟨r, hur, hT⟩
        · refine Calls.mono (safe_open w10 B p m x10 K M k rs T HX10.out HQ9.out.1 HQ9.out.2.1 HQ9.out.2.2.2.2.2 HSF.out.lks HSF.out.rok HSF.out.per HSF.out.t HQ9.out.2.2.1 HQ9.out.2.2.2.1 hbad (HPT.out.1.on HB10.out) (HPT.out.2.on HB10.out)) ?_
          clear hbad
          rintro e w11 ⟨x11, hX11, hF11, hk11, hb11, hcs⟩
          rcases hcs with ⟨lp, u, hlp, rfl, hg, hpay, q1, q2, q3⟩ | ⟨rfl, hT, q1, q2⟩
          · have HSZ : Hid (Sfe x11 K rs (k + 1)) := HSF.out.few_up hF11 (by omega)
            have HX11 : Hid (DA w11 B p m x11) := hX11
            have HB11 : Hid (Below B w2 w11) := HB10.out.trans hb11
            have HP11 : Hid (PayI w w11 B (.slice pa2 RN pc2) (rs.map (·.1))) := HP10.out.kl hk11
            have HGZ : Hid (Lg w11 lp p ((gst K 0 rs (List.replicate 32 0)).hi (M - 1))) := hg
            have HLP : Hid (B ≤ lp) := Nat.le_trans HX10.out.lt hlp
            have HQ : Hid (x11.on = true ∧ x11.und = none ∧ SF x11.fs K rs M []) := ⟨q1, q2, q3⟩
            have hM100 : M ≤ 100 := q3.few
            obtain ⟨qa, qc, hu0, hqc1, hqc2⟩ := hpay.slice
            have HQP := (show Hid _ from hpay)
            have hok : LG.ok ((gst K 0 rs (List.replicate 32 0)).hi (M - 1)) := ⟨by show 1 ≤ (gst K 0 rs (List.replicate 32 0)).per ∧ (gst K 0 rs (List.replicate 32 0)).per ≤ 1000; rw [gst_per]; have := HSF.out.per; omega, by show (gst K 0 rs (List.replicate 32 0)).low ≤ _; rw [gst_low]; omega, by show M - 1 ≤ _; omega, by show (gst K 0 rs (List.replicate 32 0)).next ≤ _; rw [gst_next]; have := HSF.out.len; (try rw [List.length_append, List.length_singleton]); omega⟩
            have HFI : Hid (∀ w', Lg w' lp p ((gst K 0 rs (List.replicate 32 0)).hi (M - 1)) → Calls Tryz.prog 16 #[.pointer (some ⟨lp, 0, none⟩)] w' fun e w'' => e = .returned (.int .i64 1) ∧ w'' = w') := fun w' h => (first_ok w' lp p _ h hok).mono fun e w'' hh => ⟨by rw [hh.1]; show Ending.returned (.int .i64 (((gst K 0 rs (List.replicate 32 0)).low * _ + 1 : Nat) : Int)) = _; rw [gst_low, Nat.zero_mul]; rfl, hh.2⟩
            have HNX : Hid (∀ w', Lg w' lp p ((gst K 0 rs (List.replicate 32 0)).hi (M - 1)) → Calls Tryz.prog 17 #[.pointer (some ⟨lp, 0, none⟩)] w' fun e w'' => e = .returned (.int .i64 (((RN : Int) + 1) : Int)) ∧ w'' = w') := fun w' h => (next_ok w' lp p _ h).mono fun e w'' hh => ⟨by rw [hh.1]; show Ending.returned (.int .i64 (((gst K 0 rs (List.replicate 32 0)).next : Nat) : Int)) = _; rw [gst_next]; congr 2; have := HRN.out; (try rw [List.length_append, List.length_singleton]); omega, hh.2⟩
            rw [List.length_map] at hu0 hqc1
            rw [← HRN.out] at hu0 hqc1
            subst hu0
            have HB0' : Hid (Below w.heap.size w w11) := HB0.out.trans (hb11.mono HBz.out)
            clear hX11 hF11 hk11 hb11 hlp hg hpay q1 q2 q3 hok
            have d1 : ¬ ((RN : Int) = (RN : Int) + 1) := by omega
            have HPZ := HP11
            have HXZ := HX11
            have HBZ := HB11
            have HB0 := HB0'
            go_wp2_with fail
            obtain ⟨ts, hts, hrt⟩ := HQP.out.rws
            obtain ⟨us, hus, hru⟩ := HPZ.out.rws (HB0.out)
            refine (sameL_ok _ _ _ ts us hrt hru (by rw [hts, hus])).mono ?_
            rintro e w13 ⟨rfl, b13⟩
            have HX13 : Hid (DA w13 B p m x11) := HXZ.out.step b13
            have HP13 := (show Hid _ from HPZ.out.step b13)
            have HB13 : Hid (Below B w2 w13) := HBZ.out.trans (b13.mono HXZ.out.lt)
            have HG13 := (show Hid _ from HGZ.out.step b13)
            clear hts hus hrt hru b13
            go_wp2_with fail
            refine Calls.mono (HFI.out w13 HG13.out) ?_
            rintro e wq ⟨rfl, hwq⟩
            obtain rfl := hwq.symm
            clear hwq
            go_wp2_with fail
            refine Calls.mono (HNX.out w13 HG13.out) ?_
            rintro e wq ⟨rfl, hwq⟩
            obtain rfl := hwq.symm
            clear hwq
            go_wp2_with fail
            go_roundw
            case rel => exact ⟨k + 1, x11, rs, by omega, by omega, by go_num, HX13.out, HSZ.out, HP13.out, HB13.out, Or.inl ⟨lp, M - 1, M, rfl, HLP.out, by have := HQ.out.2.2.few; omega, HQ.out.1, HQ.out.2.1, HQ.out.2.2, HG13.out, rfl⟩⟩
            case measure => simp [intOf]; omega
          · have HX11 : Hid (DA w11 B p m x11) := hX11
            have HSZ : Hid (Sfe x11 K rs (k + 1)) := HSF.out.few_up hF11 (by omega)
            have HB11 : Hid (Below B w2 w11) := HB10.out.trans hb11
            have HP11 : Hid (PayI w w11 B (.slice pa2 RN pc2) (rs.map (·.1))) := HP10.out.kl hk11
            have HQ : Hid (x11.on = false ∧ Rdy x11 K rs none) := ⟨q1, q2⟩
            clear hX11 hF11 hk11 hb11 hT q1 q2
            go_wp2_with fail
            go_roundw
            case rel => exact ⟨k + 1, x11, rs, by omega, by omega, by go_num, HX11.out, HSZ.out, HP11.out, HB11.out, Or.inr ⟨none, HQ.out.1, HQ.out.2, fun r e => by cases e⟩⟩
            case measure => simp [intOf]; omega
        · obtain ⟨hr1, hr2, ra, rc, hu12, hbu⟩ := HOFF.out.2.2 r hur
          have HRR : Hid (Rok r ∧ Lks K 0 (rs ++ [r])) := ⟨hr1, hr2⟩
          have HS2 : Hid (SF x10.fs K (rs ++ [r]) M []) := sf_whole HSF.out.per.1 (hT ▸ HQ9.out.2.2.1) HQ9.out.2.2.2.1
          have hrk2 : ∀ q ∈ rs ++ [r], Rok q := fun q hq => by
            rcases List.mem_append.1 hq with hq | hq
            · exact HSF.out.rok q hq
            · rw [List.mem_singleton] at hq
              subst hq
              exact hr1
          refine Calls.mono (safe_open w10 B p m x10 K M k (rs ++ [r]) [] HX10.out HQ9.out.1 HQ9.out.2.1 HQ9.out.2.2.2.2.2 HRR.out.2 hrk2 HSF.out.per HSF.out.t HS2.out HQ9.out.2.2.2.1 (Or.inl rfl) (HPT.out.1.on HB10.out) (HPT.out.2.on HB10.out)) ?_
          rintro e w11 ⟨x11, hX11, hF11, hk11, hb11, hcs⟩
          rcases hcs with ⟨lp, u, hlp, rfl, hg, hpay, q1, q2, q3⟩ | ⟨rfl, hTT, q1, q2⟩
          rotate_left
          · exact absurd rfl hTT
          have HSZ : Hid (Sfe x11 K (rs ++ [r]) (k + 1)) := HSF.out.app hr1 hr2 hF11 (by omega) (by have h1 := HKN.out (rs.length + 1) (by have := HSF.out.len; omega) (by have := HSF.out.len; omega); exact h1)
          have HX11 : Hid (DA w11 B p m x11) := hX11
          have HB11 : Hid (Below B w2 w11) := HB10.out.trans hb11
          have HP11 : Hid (PayI w w11 B (.slice pa2 RN pc2) (rs.map (·.1))) := HP10.out.kl hk11
          have HGZ : Hid (Lg w11 lp p ((gst K 0 (rs ++ [r]) (List.replicate 32 0)).hi (M - 1))) := hg
          have HLP : Hid (B ≤ lp) := Nat.le_trans HX10.out.lt hlp
          have HQ : Hid (x11.on = true ∧ x11.und = none ∧ SF x11.fs K (rs ++ [r]) M []) := ⟨q1, q2, q3⟩
          have hM100 : M ≤ 100 := q3.few
          obtain ⟨qa, qc, hu0, hqc1, hqc2⟩ := hpay.slice
          have HQP := (show Hid _ from hpay)
          have hok : LG.ok ((gst K 0 (rs ++ [r]) (List.replicate 32 0)).hi (M - 1)) := ⟨by show 1 ≤ (gst K 0 (rs ++ [r]) (List.replicate 32 0)).per ∧ (gst K 0 (rs ++ [r]) (List.replicate 32 0)).per ≤ 1000; rw [gst_per]; have := HSF.out.per; omega, by show (gst K 0 (rs ++ [r]) (List.replicate 32 0)).low ≤ _; rw [gst_low]; omega, by show M - 1 ≤ _; omega, by show (gst K 0 (rs ++ [r]) (List.replicate 32 0)).next ≤ _; rw [gst_next]; have := HSF.out.len; (try rw [List.length_append, List.length_singleton]); omega⟩
          have HFI : Hid (∀ w', Lg w' lp p ((gst K 0 (rs ++ [r]) (List.replicate 32 0)).hi (M - 1)) → Calls Tryz.prog 16 #[.pointer (some ⟨lp, 0, none⟩)] w' fun e w'' => e = .returned (.int .i64 1) ∧ w'' = w') := fun w' h => (first_ok w' lp p _ h hok).mono fun e w'' hh => ⟨by rw [hh.1]; show Ending.returned (.int .i64 (((gst K 0 (rs ++ [r]) (List.replicate 32 0)).low * _ + 1 : Nat) : Int)) = _; rw [gst_low, Nat.zero_mul]; rfl, hh.2⟩
          have HNX : Hid (∀ w', Lg w' lp p ((gst K 0 (rs ++ [r]) (List.replicate 32 0)).hi (M - 1)) → Calls Tryz.prog 17 #[.pointer (some ⟨lp, 0, none⟩)] w' fun e w'' => e = .returned (.int .i64 (((RN : Int) + 2) : Int)) ∧ w'' = w') := fun w' h => (next_ok w' lp p _ h).mono fun e w'' hh => ⟨by rw [hh.1]; show Ending.returned (.int .i64 (((gst K 0 (rs ++ [r]) (List.replicate 32 0)).next : Nat) : Int)) = _; rw [gst_next]; congr 2; have := HRN.out; (try rw [List.length_append, List.length_singleton]); omega, hh.2⟩
          rw [List.length_map, List.length_append, List.length_singleton] at hu0 hqc1
          rw [← HRN.out] at hu0 hqc1
          subst hu0
          subst hu12
          obtain ⟨xn, hxn⟩ : ∃ X, X = RN + 1 := ⟨_, rfl⟩
          rw [← hxn] at hqc1 HQP ⊢
          have hx1 : (RN : Int) + 1 = (xn : Int) := by omega
          have HB0' : Hid (Below w.heap.size w w11) := HB0.out.trans (hb11.mono HBz.out)
          obtain ⟨rl, hrl⟩ : ∃ n, n = r.1.length := ⟨_, rfl⟩
          rw [← hrl] at hbu ⊢
          have HBU : Hid (Bs w (.slice (some ra) rl rc) r.1) := hbu
          have HSZ1 : Hid (B ≤ w11.heap.size) := HX11.out.lt
          have HLR : Hid ((rs.map (·.1)).length ≤ 1000000) := (show (rs.map (·.1)).length ≤ 1000000 from by rw [List.length_map]; have := HSF.out.len; omega)
          have HPL : Hid ((rs ++ [r]).map (·.1) = rs.map (·.1) ++ [r.1]) := (show _ = _ from by rw [List.map_append, List.map_singleton])
          have HOW : Hid (∀ g, (Value.slice pa2 RN pc2).ownBlock = some g → g < w10.heap.size) := (show ∀ g, (Value.slice pa2 RN pc2).ownBlock = some g → g < w10.heap.size from by
            obtain ⟨_, _, o2, _⟩ := HP10.out.ex
            exact o2.lt)
          clear hX11 hF11 hk11 hb11 hlp hg hpay q1 q2 q3 hok hr1 hr2 hrk2 hbu hur hT hxn hrl
          go_wp2_with (at_builtin; refine appWantJ (by rfl) _ _ rfl w B (rs.map (·.1)) (.slice pa2 RN pc2) (some ra) rl rc r.1 (by rfl) (by rfl) HP11.out (Or.inl HBU.out) HSZ1.out HLR.out ?_; intro v7 w12 hp7 hb7 hk7 hq7)
          have HPZ : Hid (PayI w w12 B v7 ((rs ++ [r]).map (·.1))) := (show PayI _ _ _ _ _ from by rw [HPL.out]; exact hp7)
          have HXZ : Hid (DA w12 B p m x11) := HX11.out.kep hk7
          have HBZ : Hid (Below B w2 w12) := HB11.out.trans hb7
          have HB0 : Hid (Below w.heap.size w w12) := HB0'.out.trans (hb7.mono HBz.out)
          have HQP2 : Hid (Pay w12 w10.heap.size (.slice qa xn qc) ((rs ++ [r]).map (·.1))) := hq7 _ _ _ HQP.out HOW.out
          have HGZ2 : Hid (Lg w12 lp p ((gst K 0 (rs ++ [r]) (List.replicate 32 0)).hi (M - 1))) := Lg.kep HGZ.out hk7
          obtain ⟨pa3, pc3, hpv3, hpc3⟩ := HPZ.out.form
          rw [List.length_map, List.length_append, List.length_singleton, ← HRN.out, show RN + 1 = xn by omega] at hpv3 hpc3
          subst hpv3
          have hx2 : (xn : Int) + 1 = (RN : Int) + 2 := by omega
          clear hp7 hb7 hk7 hq7 HP11 HX11 HB11 HQP HGZ
          have HQP := HQP2
          have HGZ := HGZ2
          go_wp2_with fail
          obtain ⟨ts, hts, hrt⟩ := HQP.out.rws
          obtain ⟨us, hus, hru⟩ := HPZ.out.rws (HB0.out)
          refine (sameL_ok _ _ _ ts us hrt hru (by rw [hts, hus])).mono ?_
          rintro e w13 ⟨rfl, b13⟩
          have HX13 : Hid (DA w13 B p m x11) := HXZ.out.step b13
          have HP13 := (show Hid _ from HPZ.out.step b13)
          have HB13 : Hid (Below B w2 w13) := HBZ.out.trans (b13.mono HXZ.out.lt)
          have HG13 := (show Hid _ from HGZ.out.step b13)
          clear hts hus hrt hru b13
          go_wp2_with fail
          refine Calls.mono (HFI.out w13 HG13.out) ?_
          rintro e wq ⟨rfl, hwq⟩
          obtain rfl := hwq.symm
          clear hwq
          go_wp2_with fail
          refine Calls.mono (HNX.out w13 HG13.out) ?_
          rintro e wq ⟨rfl, hwq⟩
          obtain rfl := hwq.symm
          clear hwq
          go_wp2_with fail
          go_roundw
          case rel => exact ⟨k + 1, x11, (rs ++ [r]), by omega, by omega, by go_num, HX13.out, HSZ.out, HP13.out, HB13.out, Or.inl ⟨lp, M - 1, M, rfl, HLP.out, by have := HQ.out.2.2.few; omega, HQ.out.1, HQ.out.2.1, HQ.out.2.2, HG13.out, rfl⟩⟩
          case measure => simp [intOf]; omega

end Go.Proofs.YtkmdegmpffgplaaGreatDoor
