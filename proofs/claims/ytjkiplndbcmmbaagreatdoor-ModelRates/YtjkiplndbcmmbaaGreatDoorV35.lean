/- texts of the model: Mqn Mqo Mqp Mqr Mqs Mqt Mqu -/
import Derived.Test.YtjkiplndbcmmbaaGreatDoorV34
set_option linter.unusedVariables false
set_option linter.unusedSimpArgs false
set_option maxHeartbeats 16000000
namespace Go.Proofs.YtjkiplndbcmmbaaGreatDoor
open Tryz
open Go.RowKit Go.Maps
theorem qM (n : Int) (h : -9223372036854775808 ≤ n ∧ n ≤ 9223372036854775807) : wrap64 n = n := by unfold wrap64; omega
theorem jj {a : PA} {n : Int} (hw : a.wf) (h1 : -10000000000000 ≤ n) (h2 : n ≤ 10000000000000) (h : roomO (some a) n = false) : a.bal + n ≤ 10000000000000 := by
 have hb := hw.bal
 unfold roomO at h
 rw [decide_eq_false_iff_not, qM _ ⟨by omega, by omega⟩] at h
 omega
theorem fa {M : PM} {a : PA} {n : Int} (h : fundsO M (some a) n = false) : n ≤ a.bal + (ver M a.prod).lim - a.held := by
 unfold fundsO spend at h
 rw [decide_eq_false_iff_not] at h
 omega
theorem rN {vs : List PV} {id day : Int} {x : PV} (h : hold vs id day = some x) : x.id = id := by
 unfold hold at h
 have := List.find?_some h
 rw [decide_eq_true_iff] at this
 exact this.1
theorem sq {w : World} {B : Nat} {F : FB} {M : PM} (h : MD w B F M) {id p : Int} (hi : 1 ≤ id ∧ id ≤ 1000000000) (hv : (verO M p).isSome = true) : (newA M id p).wf := by
 obtain ⟨S, hC⟩ := h.cat
 obtain ⟨x, hx⟩ := Option.isSome_iff_exists.1 hv
 have hm := hC.fine x (jH hx)
 have hid := rN hx
 have e : ver M p = x := by unfold ver; rw [hx]; rfl
 unfold chk at hm
 split at hm
 ·rename_i h1
  unfold PV.inr wi at h1
  simp only [Bool.and_eq_true, decide_eq_true_iff] at h1
  unfold newA
  rw [e]
  refine ⟨hi, by rw [← hid]; exact h1.1.1.1.1.1.1.1, h1.1.1.1.1.1.2, h1.1.1.1.1.1.1.2, ⟨by show _ ≤ (0 : Int); decide, by show (0 : Int) ≤ _; decide⟩, ⟨by show _ ≤ (0 : Int); decide, by show (0 : Int) ≤ _; decide⟩, ⟨by show _ ≤ (0 : Int); decide, by show (0 : Int) ≤ _; decide⟩, List.Pairwise.nil, by show 0 ≤ 64; decide, fun q hq => (by cases hq), rfl⟩
 ·cases hm
theorem sC {al : List PA} (hs : al.Pairwise fun a b => a.id < b.id) {id : Int} (h : plc al id = al.length) : ∀ b ∈ al, b.id < id := by
 intro b hb
 obtain ⟨i, hi⟩ := List.getElem?_of_mem hb
 exact (eH hs hi id).2 (by rw [h]; exact (List.getElem?_eq_some_iff.1 hi).1)
theorem oZ {M : PM} {id : Int} {a : PA} (h : acctO M id = some a) : curA M id = a.cur := by unfold curA; rw [h]; rfl
theorem lT {M : PM} (hs : M.al.Pairwise fun a b => a.id < b.id) {i : Nat} {a : PA} {id : Int} (ha : M.al[i]? = some a) (hid : a.id = id) (ho : acctO M id = some a) (n : Int) : cashM M i a n = cshM M id n := by
 unfold cashM cshM
 rw [oZ ho, ← dX hs ha hid (addB n)]
 rfl
theorem lK {M : PM} (hs : M.al.Pairwise fun a b => a.id < b.id) {i j : Nat} {a b : PA} {p q : Int} (ha : M.al[i]? = some a) (hb : M.al[j]? = some b) (hij : i ≠ j) (hp : a.id = p) (hq : b.id = q) (ho : acctO M p = some a) (n m d c v : Int) : twoM M i a (a.bal + n) j b (b.bal + m) d c v = dblM M p n q m d c v := by
 unfold twoM dblM
 rw [oZ ho, ← sr hs ha hb hij hp hq n m]
 rfl
theorem IsA.ne {F : FB} {M : PM} {i j : Nat} {a b : PA} {x y : Nat × Nat} (h : IsA F M i a x) (k : IsA F M j b y) (hn : a.id ≠ b.id) : i ≠ j := by
 rintro rfl
 have := h.a.symm.trans k.a
 injection this with this
 exact hn (by rw [this])
theorem vz (w : World) (B : Nat) (F : FB) (M : PM) (hM : MD w B F M) (T : TBL w) (hB : 6 ≤ B) (e : EV) (he : e.ok) (tv : Value) (R : Tr w tv e.ts) (hno : ∀ n c, tv = .slice none n c → c = 0) (hop : e.op = 1) (h : askL M 0 e = 0) (hc : 0 ≤ M.n ∧ M.n ≤ 4611686018427387904) (hl : M.rates.length < 1000000000000) :
  Calls prog 55 #[.pointer (some ⟨F.pm, 0, none⟩), .agg (e.cells tv).toArray] w fun r w' => ∃ F', r = .returned (.tuple #[]) ∧ MD w' B F' (chg M e) ∧ F'.pm = F.pm ∧ F'.km = F.km ∧ But (F.reach w B) w w' := by
 rw [show askL M 0 e = wth 0 (addE M.vs e.pv) from by unfold askL; rw [if_pos hop]] at h
 have hw := hM.wf
 rw [show chg M e = { M with vs := M.vs ++ [e.pv] } from by unfold chg; rw [if_pos hop]]
 refine (oI w B F M hM T hB e tv hop he R hno (wth_0.1 h).2).mono ?_
 rintro r w' ⟨rfl, h1, h2⟩
 exact ⟨F, rfl, h1, rfl, rfl, h2⟩
theorem vA (w : World) (B : Nat) (F : FB) (M : PM) (hM : MD w B F M) (T : TBL w) (hB : 6 ≤ B) (e : EV) (he : e.ok) (tv : Value) (R : Tr w tv e.ts) (hno : ∀ n c, tv = .slice none n c → c = 0) (hop : e.op = 2) (h : askL M 0 e = 0) (hc : 0 ≤ M.n ∧ M.n ≤ 4611686018427387904) (hl : M.rates.length < 1000000000000) (hend : plc M.al e.n0 = M.al.length) :
  Calls prog 55 #[.pointer (some ⟨F.pm, 0, none⟩), .agg (e.cells tv).toArray] w fun r w' => ∃ F', r = .returned (.tuple #[]) ∧ MD w' B F' (chg M e) ∧ F'.pm = F.pm ∧ F'.km = F.km ∧ But (F.reach w B) w w' := by
 rw [show askL M 0 e = openL M 0 e.n0 e.n1 from by unfold askL; rw [if_neg (by omega), if_pos hop]] at h
 have hw := hM.wf
 rw [show chg M e = { M with al := M.al.take (plc M.al e.n0) ++ newA M e.n0 e.n1 :: M.al.drop (plc M.al e.n0) } from by unfold chg; rw [if_neg (by omega), if_pos hop]]
 unfold openL at h
 rw [aF (by decide), aF (by decide), wth_0, aF (by decide)] at h
 obtain ⟨⟨⟨⟨_, k1⟩, k2⟩, k3⟩, k4⟩ := h
 have k1 := beyond_0.1 k1
 have k2 : (verO M e.n1).isSome = true := by
  cases hv : (verO M e.n1).isSome with
  | true => rfl
  | false => rw [hv] at k2; cases k2
 rw [decide_eq_false_iff_not] at k4
 refine (oJ w B F M hM T hB e tv hop he.n0 hend (sq hM k1 k2) (sC hw.sort hend) (by omega)).mono ?_
 rintro r w' ⟨v, q, hb, rfl, h1, h2, _, _⟩
 refine ⟨F.more v q hb, rfl, ?_, rfl, rfl, h2⟩
 rw [hend, List.take_length, List.drop_length]
 exact h1
theorem vB (w : World) (B : Nat) (F : FB) (M : PM) (hM : MD w B F M) (T : TBL w) (hB : 6 ≤ B) (e : EV) (he : e.ok) (tv : Value) (R : Tr w tv e.ts) (hno : ∀ n c, tv = .slice none n c → c = 0) (hop : e.op = 3) (h : askL M 0 e = 0) (hc : 0 ≤ M.n ∧ M.n ≤ 4611686018427387904) (hl : M.rates.length < 1000000000000) :
  Calls prog 55 #[.pointer (some ⟨F.pm, 0, none⟩), .agg (e.cells tv).toArray] w fun r w' => ∃ F', r = .returned (.tuple #[]) ∧ MD w' B F' (chg M e) ∧ F'.pm = F.pm ∧ F'.km = F.km ∧ But (F.reach w B) w w' := by
 rw [show askL M 0 e = whn (namedK M 0 e.n0 0) (emptyO (acctO M e.n0)) 15 from by unfold askL; rw [if_neg (by omega), if_neg (by omega), if_pos hop]] at h
 have hw := hM.wf
 rw [show chg M e = { M with al := onA M.al e.n0 closedA } from by unfold chg; rw [if_neg (by omega), if_neg (by omega), if_pos hop]]
 rw [aF (by decide), namedK_0] at h
 obtain ⟨⟨_, a, ha, k1, k2⟩, k3⟩ := h
 obtain ⟨i, x, hi, hid, _⟩ := hM.acct ha
 rw [← dX hw.sort hi.a hid closedA]
 refine (oK w B F M hM T hB e tv hop i a x hi hid).mono ?_
 rintro r w' ⟨rfl, h1, h2⟩
 exact ⟨F, rfl, h1, rfl, rfl, h2.mono (fun j hj => Or.inl hj)⟩
theorem vC (w : World) (B : Nat) (F : FB) (M : PM) (hM : MD w B F M) (T : TBL w) (hB : 6 ≤ B) (e : EV) (he : e.ok) (tv : Value) (R : Tr w tv e.ts) (hno : ∀ n c, tv = .slice none n c → c = 0) (hop : e.op = 4) (h : askL M 0 e = 0) (hc : 0 ≤ M.n ∧ M.n ≤ 4611686018427387904) (hl : M.rates.length < 1000000000000) :
  Calls prog 55 #[.pointer (some ⟨F.pm, 0, none⟩), .agg (e.cells tv).toArray] w fun r w' => ∃ F', r = .returned (.tuple #[]) ∧ MD w' B F' (chg M e) ∧ F'.pm = F.pm ∧ F'.km = F.km ∧ But (F.reach w B) w w' := by
 rw [show askL M 0 e = whn (namedK M (whn 0 (beyond e.n1 10000000000000) 1) e.n0 1) (roomO (acctO M e.n0) e.n1) 4 from by unfold askL; rw [if_neg (by omega), if_neg (by omega), if_neg (by omega), if_pos hop]] at h
 have hw := hM.wf
 rw [show chg M e = cshM M e.n0 e.n1 from by unfold chg; rw [if_neg (by omega), if_neg (by omega), if_neg (by omega), if_pos hop]]
 rw [aF (by decide), namedK_0, aF (by decide)] at h
 obtain ⟨⟨⟨_, k0⟩, a, ha, k1, k2⟩, k3⟩ := h
 have k0 := beyond_0.1 k0
 obtain ⟨i, x, hi, hid, _⟩ := hM.acct ha
 have wa := hM.awf hi
 have hb := wa.bal
 have hh := wa.held
 rw [ha] at k3
 have k3 := jj wa (by omega) (by omega) k3
 rw [← lT hw.sort hi.a hid ha]
 refine (oL w B F M hM T hB e tv hop i a x hi hid k0.1 k0.2 (by omega) (by omega) hc).mono ?_
 rintro r w' ⟨rfl, h1, h2⟩
 exact ⟨F, rfl, h1, rfl, rfl, h2.mono (fun j hj => Or.inl hj)⟩
theorem vD (w : World) (B : Nat) (F : FB) (M : PM) (hM : MD w B F M) (T : TBL w) (hB : 6 ≤ B) (e : EV) (he : e.ok) (tv : Value) (R : Tr w tv e.ts) (hno : ∀ n c, tv = .slice none n c → c = 0) (hop : e.op = 5) (h : askL M 0 e = 0) (hc : 0 ≤ M.n ∧ M.n ≤ 4611686018427387904) (hl : M.rates.length < 1000000000000) :
  Calls prog 55 #[.pointer (some ⟨F.pm, 0, none⟩), .agg (e.cells tv).toArray] w fun r w' => ∃ F', r = .returned (.tuple #[]) ∧ MD w' B F' (chg M e) ∧ F'.pm = F.pm ∧ F'.km = F.km ∧ But (F.reach w B) w w' := by
 rw [show askL M 0 e = whn (namedK M (whn 0 (beyond e.n1 10000000000000) 1) e.n0 1) (fundsO M (acctO M e.n0) e.n1) 13 from by unfold askL; rw [if_neg (by omega), if_neg (by omega), if_neg (by omega), if_neg (by omega), if_pos hop]] at h
 have hw := hM.wf
 rw [show chg M e = cshM M e.n0 (-e.n1) from by unfold chg; rw [if_neg (by omega), if_neg (by omega), if_neg (by omega), if_neg (by omega), if_pos hop]]
 rw [aF (by decide), namedK_0, aF (by decide)] at h
 obtain ⟨⟨⟨_, k0⟩, a, ha, k1, k2⟩, k3⟩ := h
 have k0 := beyond_0.1 k0
 obtain ⟨i, x, hi, hid, _⟩ := hM.acct ha
 have wa := hM.awf hi
 have hb := wa.bal
 have hh := wa.held
 rw [ha] at k3
 have k3 := fa k3
 have hl1 := hM.lim a.prod
 rw [← lT hw.sort hi.a hid ha]
 refine (oM w B F M hM T hB e tv hop i a x hi hid k0.1 k0.2 (by omega) (by omega) hc).mono ?_
 rintro r w' ⟨rfl, h1, h2⟩
 exact ⟨F, rfl, h1, rfl, rfl, h2.mono (fun j hj => Or.inl hj)⟩
theorem vE (w : World) (B : Nat) (F : FB) (M : PM) (hM : MD w B F M) (T : TBL w) (hB : 6 ≤ B) (e : EV) (he : e.ok) (tv : Value) (R : Tr w tv e.ts) (hno : ∀ n c, tv = .slice none n c → c = 0) (hop : e.op = 6) (h : askL M 0 e = 0) (hc : 0 ≤ M.n ∧ M.n ≤ 4611686018427387904) (hl : M.rates.length < 1000000000000) :
  Calls prog 55 #[.pointer (some ⟨F.pm, 0, none⟩), .agg (e.cells tv).toArray] w fun r w' => ∃ F', r = .returned (.tuple #[]) ∧ MD w' B F' (chg M e) ∧ F'.pm = F.pm ∧ F'.km = F.km ∧ But (F.reach w B) w w' := by
 rw [show askL M 0 e = transferL M 0 e.n0 e.n1 e.n2 from by unfold askL; rw [if_neg (by omega), if_neg (by omega), if_neg (by omega), if_neg (by omega), if_neg (by omega), if_pos hop]] at h
 have hw := hM.wf
 rw [show chg M e = dblM M e.n0 (-e.n2) e.n1 e.n2 2 2 e.n2 from by unfold chg; rw [if_neg (by omega), if_neg (by omega), if_neg (by omega), if_neg (by omega), if_neg (by omega), if_pos hop]]
 unfold transferL at h
 rw [aF (by decide), aF (by decide), aF (by decide), namedK_0, namedK_0, aF (by decide), aF (by decide)] at h
 obtain ⟨⟨⟨⟨⟨⟨⟨_, k0⟩, k9⟩, a, ha, k1, k2⟩, b, hb, k3, k4⟩, k5⟩, k6⟩, k7⟩ := h
 have k0 := beyond_0.1 k0
 obtain ⟨i, x, hi, hid, _⟩ := hM.acct ha
 obtain ⟨j, y, hj, hjd, _⟩ := hM.acct hb
 have wa := hM.awf hi
 have wb := hM.awf hj
 have h1 := wa.bal
 have h2 := wb.bal
 have h3 := wa.held
 have h4 := hM.lim a.prod
 rw [ha] at k5
 rw [hb] at k6
 have k5 := fa k5
 have k6 := jj wb (by omega) (by omega) k6
 have hne : e.n0 ≠ e.n1 := by simpa using k9
 have hij := hi.ne hj (by rw [hid, hjd]; exact hne)
 rw [← lK hw.sort hi.a hj.a hij hid hjd ha]
 refine (oN w B F M hM T hB e tv hop i a x hi hid j b y hj hjd hij k0.1 k0.2 (by omega) (by omega) (by omega) (by omega) hc).mono ?_
 rintro r w' ⟨rfl, h1, h2⟩
 exact ⟨F, rfl, h1, rfl, rfl, h2.mono (fun j hj => Or.inl hj)⟩
theorem vF (w : World) (B : Nat) (F : FB) (M : PM) (hM : MD w B F M) (T : TBL w) (hB : 6 ≤ B) (e : EV) (he : e.ok) (tv : Value) (R : Tr w tv e.ts) (hno : ∀ n c, tv = .slice none n c → c = 0) (hop : e.op = 7) (h : askL M 0 e = 0) (hc : 0 ≤ M.n ∧ M.n ≤ 4611686018427387904) (hl : M.rates.length < 1000000000000) :
  Calls prog 55 #[.pointer (some ⟨F.pm, 0, none⟩), .agg (e.cells tv).toArray] w fun r w' => ∃ F', r = .returned (.tuple #[]) ∧ MD w' B F' (chg M e) ∧ F'.pm = F.pm ∧ F'.km = F.km ∧ But (F.reach w B) w w' := by
 rw [show askL M 0 e = holdL M 0 e.n0 e.n1 e.n2 from by unfold askL; rw [if_neg (by omega), if_neg (by omega), if_neg (by omega), if_neg (by omega), if_neg (by omega), if_neg (by omega), if_pos hop]] at h
 have hw := hM.wf
 rw [show chg M e = { M with al := onA M.al e.n0 fun a => heldA a e.n1 e.n2 } from by unfold chg; rw [if_neg (by omega), if_neg (by omega), if_neg (by omega), if_neg (by omega), if_neg (by omega), if_neg (by omega), if_pos hop]]
 unfold holdL at h
 rw [aF (by decide), aF (by decide), aF (by decide), namedK_0, aF (by decide), aF (by decide)] at h
 obtain ⟨⟨⟨⟨⟨⟨_, k0⟩, k9⟩, a, ha, k1, k2⟩, k3⟩, k4⟩, k5⟩ := h
 have k0 := beyond_0.1 k0
 have k9 := beyond_0.1 k9
 obtain ⟨i, x, hi, hid, _⟩ := hM.acct ha
 have wa := hM.awf hi
 have h1 := wa.bal
 have h3 := wa.held
 have h4 := hM.lim a.prod
 rw [ha] at k3 k4 k5
 have k3 := fa k3
 have k4 : lkA a.hs e.n1 = none := by
  cases hz : lkA a.hs e.n1 with
  | none => rfl
  | some z =>
   have := (wa.hv _ (fY hz)).2.1
   have k4 : ((lkA a.hs e.n1).getD 0 != 0) = false := k4
   rw [hz] at k4
   have : z = 0 := by simpa using k4
   omega
 have k5 : a.hs.length < 64 := by
  have k5 : decide ((64 : Int) ≤ (a.hs.length : Int)) = false := k5
  rw [decide_eq_false_iff_not] at k5
  omega
 rw [← dX hw.sort hi.a hid fun a => heldA a e.n1 e.n2]
 refine (oO w B F M hM T hB e tv hop i a x hi hid k0.1 k0.2 k9 k4 k5 (by omega)).mono ?_
 rintro r w' ⟨rfl, h1, h2⟩
 exact ⟨F, rfl, h1, rfl, rfl, h2.mono (fun j hj => Or.inl hj)⟩
theorem vG (w : World) (B : Nat) (F : FB) (M : PM) (hM : MD w B F M) (T : TBL w) (hB : 6 ≤ B) (e : EV) (he : e.ok) (tv : Value) (R : Tr w tv e.ts) (hno : ∀ n c, tv = .slice none n c → c = 0) (hop : e.op = 8) (h : askL M 0 e = 0) (hc : 0 ≤ M.n ∧ M.n ≤ 4611686018427387904) (hl : M.rates.length < 1000000000000) :
  Calls prog 55 #[.pointer (some ⟨F.pm, 0, none⟩), .agg (e.cells tv).toArray] w fun r w' => ∃ F', r = .returned (.tuple #[]) ∧ MD w' B F' (chg M e) ∧ F'.pm = F.pm ∧ F'.km = F.km ∧ But (F.reach w B) w w' := by
 rw [show askL M 0 e = freeL M 0 e.n0 e.n1 from by unfold askL; rw [if_neg (by omega), if_neg (by omega), if_neg (by omega), if_neg (by omega), if_neg (by omega), if_neg (by omega), if_neg (by omega), if_pos hop]] at h
 have hw := hM.wf
 rw [show chg M e = { M with al := onA M.al e.n0 fun a => freedA a e.n1 ((lkA a.hs e.n1).getD 0) } from by unfold chg; rw [if_neg (by omega), if_neg (by omega), if_neg (by omega), if_neg (by omega), if_neg (by omega), if_neg (by omega), if_neg (by omega), if_pos hop]]
 unfold freeL at h
 rw [aF (by decide), namedK_0, aF (by decide)] at h
 obtain ⟨⟨⟨_, k0⟩, a, ha, k1, k2⟩, k3⟩ := h
 obtain ⟨i, x, hi, hid, _⟩ := hM.acct ha
 rw [ha] at k3
 have k3 : ((lkA a.hs e.n1).getD 0 == 0) = false := k3
 obtain ⟨z, hz⟩ : ∃ z, lkA a.hs e.n1 = some z := by
  cases hz : lkA a.hs e.n1 with
  | none => rw [hz] at k3; cases k3
  | some z => exact ⟨z, rfl⟩
 rw [← dX hw.sort hi.a hid fun a => freedA a e.n1 ((lkA a.hs e.n1).getD 0), hz]
 refine (oP w B F M hM T hB e tv hop i a x hi hid z hz).mono ?_
 rintro r w' ⟨rfl, h1, h2⟩
 exact ⟨F, rfl, h1, rfl, rfl, h2.mono (fun j hj => Or.inl hj)⟩
theorem vH (w : World) (B : Nat) (F : FB) (M : PM) (hM : MD w B F M) (T : TBL w) (hB : 6 ≤ B) (e : EV) (he : e.ok) (tv : Value) (R : Tr w tv e.ts) (hno : ∀ n c, tv = .slice none n c → c = 0) (hop : e.op = 9) (h : askL M 0 e = 0) (hc : 0 ≤ M.n ∧ M.n ≤ 4611686018427387904) (hl : M.rates.length < 1000000000000) :
  Calls prog 55 #[.pointer (some ⟨F.pm, 0, none⟩), .agg (e.cells tv).toArray] w fun r w' => ∃ F', r = .returned (.tuple #[]) ∧ MD w' B F' (chg M e) ∧ F'.pm = F.pm ∧ F'.km = F.km ∧ But (F.reach w B) w w' := by
 rw [show askL M 0 e = lendL M 0 e.n0 e.n1 e.n2 e.n3 from by unfold askL; rw [if_neg (by omega), if_neg (by omega), if_neg (by omega), if_neg (by omega), if_neg (by omega), if_neg (by omega), if_neg (by omega), if_neg (by omega), if_pos hop]] at h
 have hw := hM.wf
 rw [show chg M e = dblM M e.n0 e.n2 e.n1 e.n2 3 2 e.n2 from by unfold chg; rw [if_neg (by omega), if_neg (by omega), if_neg (by omega), if_neg (by omega), if_neg (by omega), if_neg (by omega), if_neg (by omega), if_neg (by omega), if_pos hop]]
 unfold lendL at h
 rw [aF (by decide), aF (by decide), aF (by decide), aF (by decide), namedK_0, namedK_0, aF (by decide), aF (by decide)] at h
 obtain ⟨⟨⟨⟨⟨⟨⟨⟨_, k0⟩, k9⟩, a, ha, k1, k2⟩, b, hb, k3, k4⟩, k5⟩, k6⟩, k7⟩, k8⟩ := h
 have k0 := beyond_0.1 k0
 obtain ⟨i, x, hi, hid, _⟩ := hM.acct ha
 obtain ⟨j, y, hj, hjd, _⟩ := hM.acct hb
 have wa := hM.awf hi
 have wb := hM.awf hj
 have h1 := wa.bal
 have h2 := wb.bal
 rw [hb] at k5
 rw [ha] at k8
 have k5 := jj wb (by omega) (by omega) k5
 have k8 : a.bal = 0 := by simpa [owesO] using k8
 have k2 : a.kind = 2 := k2.elim (fun h => by cases h) id
 have k4 : b.kind = 1 := k4.elim (fun h => by cases h) id
 have hij : i ≠ j := by
  rintro rfl
  have := hi.a.symm.trans hj.a
  injection this with this
  rw [this, k4] at k2
  cases k2
 rw [← lK hw.sort hi.a hj.a hij hid hjd ha]
 refine (oQ w B F M hM T hB e tv hop i a x hi hid j b y hj hjd hij k0.1 k0.2 (by omega) (by omega) (by omega) (by omega) hc).mono ?_
 rintro r w' ⟨rfl, h1, h2⟩
 exact ⟨F, rfl, h1, rfl, rfl, h2.mono (fun j hj => Or.inl hj)⟩
theorem u7 (w : World) (B : Nat) (F : FB) (M : PM) (hM : MD w B F M) (T : TBL w) (hB : 6 ≤ B) (e : EV) (he : e.ok) (tv : Value) (R : Tr w tv e.ts) (hno : ∀ n c, tv = .slice none n c → c = 0) (hop : e.op = 10) (h : askL M 0 e = 0) (hc : 0 ≤ M.n ∧ M.n ≤ 4611686018427387904) (hl : M.rates.length < 1000000000000) :
  Calls prog 55 #[.pointer (some ⟨F.pm, 0, none⟩), .agg (e.cells tv).toArray] w fun r w' => ∃ F', r = .returned (.tuple #[]) ∧ MD w' B F' (chg M e) ∧ F'.pm = F.pm ∧ F'.km = F.km ∧ But (F.reach w B) w w' := by
 rw [show askL M 0 e = repayL M 0 e.n0 e.n1 e.n2 from by unfold askL; rw [if_neg (by omega), if_neg (by omega), if_neg (by omega), if_neg (by omega), if_neg (by omega), if_neg (by omega), if_neg (by omega), if_neg (by omega), if_neg (by omega), if_pos hop]] at h
 have hw := hM.wf
 rw [show chg M e = dblM M e.n0 (-e.n2) e.n1 (-e.n2) 3 2 (-e.n2) from by unfold chg; rw [if_neg (by omega), if_neg (by omega), if_neg (by omega), if_neg (by omega), if_neg (by omega), if_neg (by omega), if_neg (by omega), if_neg (by omega), if_neg (by omega), if_pos hop]]
 unfold repayL at h
 rw [aF (by decide), aF (by decide), aF (by decide), namedK_0, namedK_0, aF (by decide)] at h
 obtain ⟨⟨⟨⟨⟨⟨_, k0⟩, a, ha, k1, k2⟩, b, hb, k3, k4⟩, k5⟩, k6⟩, k7⟩ := h
 have k0 := beyond_0.1 k0
 obtain ⟨i, x, hi, hid, _⟩ := hM.acct ha
 obtain ⟨j, y, hj, hjd, _⟩ := hM.acct hb
 have wa := hM.awf hi
 have wb := hM.awf hj
 have h1 := wa.bal
 have h2 := wb.bal
 have h3 := wb.held
 have h4 := hM.lim b.prod
 rw [hb] at k7
 rw [ha] at k6
 have k7 := fa k7
 have k6 : decide (a.bal < e.n2) = false := k6
 rw [decide_eq_false_iff_not] at k6
 have k2 : a.kind = 2 := k2.elim (fun h => by cases h) id
 have k4 : b.kind = 1 := k4.elim (fun h => by cases h) id
 have hij : i ≠ j := by
  rintro rfl
  have := hi.a.symm.trans hj.a
  injection this with this
  rw [this, k4] at k2
  cases k2
 rw [← lK hw.sort hi.a hj.a hij hid hjd ha]
 refine (mQ w B F M hM T hB e tv hop i a x hi hid j b y hj hjd hij k0.1 k0.2 (by omega) (by omega) (by omega) (by omega) hc).mono ?_
 rintro r w' ⟨rfl, h1, h2⟩
 exact ⟨F, rfl, h1, rfl, rfl, h2.mono (fun j hj => Or.inl hj)⟩
theorem ub (w : World) (B : Nat) (F : FB) (M : PM) (hM : MD w B F M) (T : TBL w) (hB : 6 ≤ B) (e : EV) (he : e.ok) (tv : Value) (R : Tr w tv e.ts) (hno : ∀ n c, tv = .slice none n c → c = 0) (hop : e.op = 11) (h : askL M 0 e = 0) (hc : 0 ≤ M.n ∧ M.n ≤ 4611686018427387904) (hl : M.rates.length < 1000000000000) :
  Calls prog 55 #[.pointer (some ⟨F.pm, 0, none⟩), .agg (e.cells tv).toArray] w fun r w' => ∃ F', r = .returned (.tuple #[]) ∧ MD w' B F' (chg M e) ∧ F'.pm = F.pm ∧ F'.km = F.km ∧ But (F.reach w B) w w' := by
 rw [show askL M 0 e = rateL 0 e.n0 e.n1 e.n2 from by unfold askL; rw [if_neg (by omega), if_neg (by omega), if_neg (by omega), if_neg (by omega), if_neg (by omega), if_neg (by omega), if_neg (by omega), if_neg (by omega), if_neg (by omega), if_neg (by omega), if_pos hop]] at h
 have hw := hM.wf
 rw [show chg M e = { M with rates := ((e.n0, e.n1), e.n2) :: M.rates } from by unfold chg; rw [if_neg (by omega), if_neg (by omega), if_neg (by omega), if_neg (by omega), if_neg (by omega), if_neg (by omega), if_neg (by omega), if_neg (by omega), if_neg (by omega), if_neg (by omega), if_pos hop]]
 unfold rateL at h
 rw [aF (by decide), aF (by decide), aF (by decide)] at h
 obtain ⟨⟨⟨_, k0⟩, k1⟩, k2⟩ := h
 have k1 := beyond_0.1 k1
 unfold wi at k0
 simp only [Bool.or_eq_false_iff, Bool.not_eq_false', decide_eq_true_iff] at k0
 refine (mR w B F M hM T hB e tv hop k0.1 k0.2 k1 hl).mono ?_
 rintro r w' ⟨rfl, h1, h2⟩
 exact ⟨F, rfl, h1, rfl, rfl, h2.mono (fun j hj => Or.inl hj)⟩
theorem kR (w : World) (B : Nat) (F : FB) (M : PM) (hM : MD w B F M) (T : TBL w) (hB : 6 ≤ B) (e : EV) (he : e.ok) (tv : Value) (R : Tr w tv e.ts) (hno : ∀ n c, tv = .slice none n c → c = 0) (hop : 1 ≤ e.op ∧ e.op ≤ 11) (h : askL M 0 e = 0) (hc : 0 ≤ M.n ∧ M.n ≤ 4611686018427387904) (hl : M.rates.length < 1000000000000) (hend : e.op = 2 → plc M.al e.n0 = M.al.length) :
  Calls prog 55 #[.pointer (some ⟨F.pm, 0, none⟩), .agg (e.cells tv).toArray] w fun r w' => ∃ F', r = .returned (.tuple #[]) ∧ MD w' B F' (chg M e) ∧ F'.pm = F.pm ∧ F'.km = F.km ∧ But (F.reach w B) w w' := by
 have hk : e.op = 1 ∨ e.op = 2 ∨ e.op = 3 ∨ e.op = 4 ∨ e.op = 5 ∨ e.op = 6 ∨ e.op = 7 ∨ e.op = 8 ∨ e.op = 9 ∨ e.op = 10 ∨ e.op = 11 := by omega
 rcases hk with k | k | k | k | k | k | k | k | k | k | k
 ·exact vz w B F M hM T hB e he tv R hno k h hc hl
 ·exact vA w B F M hM T hB e he tv R hno k h hc hl (hend k)
 ·exact vB w B F M hM T hB e he tv R hno k h hc hl
 ·exact vC w B F M hM T hB e he tv R hno k h hc hl
 ·exact vD w B F M hM T hB e he tv R hno k h hc hl
 ·exact vE w B F M hM T hB e he tv R hno k h hc hl
 ·exact vF w B F M hM T hB e he tv R hno k h hc hl
 ·exact vG w B F M hM T hB e he tv R hno k h hc hl
 ·exact vH w B F M hM T hB e he tv R hno k h hc hl
 ·exact u7 w B F M hM T hB e he tv R hno k h hc hl
 ·exact ub w B F M hM T hB e he tv R hno k h hc hl
theorem im (w : World) (B : Nat) (F : FB) (M : PM) (hM : MD w B F M) (hcn : M.cnt) (hs : M.seq < 1000000000) (T : TBL w) (hB : 6 ≤ B) (e : EV) (he : e.ok) (tv : Value) (R : Tr w tv e.ts) (hno : ∀ n c, tv = .slice none n c → c = 0) (f : Bool) (hform : f = true ↔ e.e8.form) (hop : 1 ≤ e.op ∧ e.op ≤ 11) (hyes : refL M e f = 0) (hlen : e.ts.length ≤ 8796093022208) (hend : e.op = 2 → plc M.al e.n0 = M.al.length) :
  Calls prog 29 #[.pointer (some ⟨F.pm, 0, none⟩), .agg (e.cells tv).toArray] w fun r w' => ∃ F', r = .returned (.int .i64 0) ∧ MD w' B F' (nxt M e) ∧ F'.pm = F.pm ∧ F'.km = F.km ∧ But (F.reach w B) w w' := by
 have h0 := pZ hyes
 have c1 := hcn.rat
 have c2 := hcn.key
 have c3 := hcn.ent
 have c4 := hcn.seq
 exact mI w B F M (chg M e) hM e he tv R hno T f hform h0.2.2.1 (by omega) hyes hlen (fun w1 b => kR w1 B F M (hM.step b) (T.step b) hB e he tv (R.step b) hno hop h0.2.2.2.2.2 (by omega) (by omega) hend) (by rw [eT]; omega) (by rw [cw]; omega) (by rw [cw]; omega)
def mT : List TypeId := [100, 85, 81, 144, 154, 208]
theorem MD.reach_ty {w : World} {B : Nat} {F : FB} {M : PM} (h : MD w B F M) {p : Nat} {cs : List Value} {T : TypeId} (v : VA w p cs T) (hT : T ∉ mT) : ¬ F.reach w B p := by
 unfold mT at hT
 simp only [List.mem_cons, List.not_mem_nil, or_false, not_or] at hT
 obtain ⟨t1, t2, t3, t4, t5, t6⟩ := hT
 obtain ⟨sv, hV⟩ := h.cbm
 rintro (hr | hr | hr | ⟨_, cs', fr, e⟩ | ⟨_, cs', fr, e⟩)
 ·rcases hr with hr | hr | hr | hr | hr | ⟨x, hx, e⟩
  ·exact v.ne h.va t1 hr
  ·exact v.ne h.led.va t4 hr
  ·exact v.neM (bP h.led.map) hr
  ·exact v.neM h.rts.isMap hr
  ·exact v.neM h.kys.isMap hr
  ·obtain ⟨i, hi⟩ := List.getElem?_of_mem hx
   obtain ⟨a, ha⟩ : ∃ a, M.al[i]? = some a := ⟨_, List.getElem?_eq_getElem (by rw [← h.len]; exact (List.getElem?_eq_some_iff.1 hi).1)⟩
   have := h.acs i a x ha hi
   rcases e with e | e
   ·exact v.ne this.1 t2 e
   ·exact v.neM this.2.isMap e
 ·exact v.ne hV t5 hr
 ·exact v.neM (h.catO hV).1 hr
 ·have := v.blk.symm.trans e
  simp only [Option.some.injEq, Obj.cells.injEq] at this
  exact t3 this.2.1
 ·have := v.blk.symm.trans e
  simp only [Option.some.injEq, Obj.cells.injEq] at this
  exact t6 this.2.1
theorem VA.keptM {w w' : World} {B : Nat} {F : FB} {M : PM} {p : Nat} {cs : List Value} {T : TypeId} (v : VA w p cs T) (h : MD w B F M) (k : But (F.reach w B) w w') (hT : T ∉ mT) : VA w' p cs T := v.but k (h.reach_ty v hT)
theorem TBL.keptM {w w' : World} {B : Nat} {F : FB} {M : PM} (t : TBL w) (h : MD w B F M) (k : But (F.reach w B) w w') (hB : 6 ≤ B) : TBL w' := t.but k (fun i hi => Nat.le_trans hB (h.reach_low hi))
theorem OwnT.hno {w : World} {B : Nat} {v : Value} {ts : List (Int × Int)} (h : OwnT w B v ts) : ∀ n c, v = .slice none n c → c = 0 := by
 intro n c e
 rcases h.own.2 with ⟨rfl, _⟩ | ⟨g, cap, cur, rfl, _⟩
 ·cases e; rfl
 ·cases e
theorem OwnT.tf {w : World} {B : Nat} {v : Value} {ts : List (Int × Int)} (h : OwnT w B v ts) : ∃ a n c, v = Value.slice a n c := by
 obtain ⟨a, c, e, _⟩ := h.tr.form
 exact ⟨a, _, c, e⟩
theorem Tr.tf {w : World} {v : Value} {ts : List (Int × Int)} (h : Tr w v ts) : ∃ a n c, v = Value.slice a n c := by
 obtain ⟨a, c, e, _⟩ := h.form
 exact ⟨a, _, c, e⟩
theorem nU (w : World) (B : Nat) (F : FB) (M : PM) (hM : MD w B F M) (hcn : M.cnt) (hs : M.seq < 1000000000) (T : TBL w) (hB : 6 ≤ B) (e : EV) (he : e.ok) (tv : Value) (R : Tr w tv e.ts) (hno : ∀ n c, tv = .slice none n c → c = 0) (f : Bool) (hform : f = true ↔ e.e8.form) (hop : 1 ≤ e.op ∧ e.op ≤ 11) (hyes : refL M e f = 0) (hlen : e.ts.length ≤ 8796093022208) (hend : e.op = 2 → plc M.al e.n0 = M.al.length) :
  Calls prog 11 #[.pointer (some ⟨F.pm, 0, none⟩), .agg (e.cells tv).toArray] w fun r w' => r = .returned (.bool true) ∧ (∃ F', MD w' B F' (nxt M e) ∧ F'.pm = F.pm) ∧ But (F.reach w B) w w' := by
 refine nE w F e tv (F.reach w B) (fun w' => ∃ F', MD w' B F' (nxt M e) ∧ F'.pm = F.pm) R.tf e.mv (fun w1 b => gQ w1 B F M (hM.step b) e he tv (R.step b) hno (T.step b) f hform hyes (by omega) hlen) (fun w1 u b o => ?_)
 refine (im w1 B F M (hM.step b) hcn hs (T.step b) hB e he u o.tr o.hno f hform hop hyes hlen hend).mono ?_
 rintro r w' ⟨F', rfl, h1, h2, _, h3⟩
 exact ⟨rfl, ⟨F', h1, h2⟩, (af b _).trans h3 (fun j hl hj => FB.reach_back b hl hj)⟩
theorem gy {ns : List Int} {k : Nat} (h : ns.length ≤ k) : ns.getD k 0 = 0 := by rw [List.getD_eq_getElem?_getD, List.getElem?_eq_none h]; rfl
def mkE (op : Nat) (ns : List Int) : EV := ⟨op, 0, ns.getD 0 0, ns.getD 1 0, ns.getD 2 0, ns.getD 3 0, ns.getD 4 0, ns.getD 5 0, ns.getD 6 0, ns.getD 7 0, []⟩
def mkC (op : Nat) (ns : List Int) (i : Nat) : List Value := [.int .u8 (op : Int), .int .u64 0] ++ (List.range 8).map (fun k => Value.int .i64 (if k < i then ns.getD k 0 else 0)) ++ [.slice none 0 0]
def mkZ : List Value := [.int .u8 0, .int .u64 0, .int .i64 0, .int .i64 0, .int .i64 0, .int .i64 0, .int .i64 0, .int .i64 0, .int .i64 0, .int .i64 0, .slice none 0 0]
theorem vV (op : Nat) (ns : List Int) : mkC op ns 0 = [.int .u8 (op : Int), .int .u64 0, .int .i64 0, .int .i64 0, .int .i64 0, .int .i64 0, .int .i64 0, .int .i64 0, .int .i64 0, .int .i64 0, .slice none 0 0] := rfl
theorem se (op : Nat) (ns : List Int) : ∀ i, i < 8 → (mkC op ns i).set (2 + i) (.int .i64 (ns.getD i 0)) = mkC op ns (i + 1)
 | 0, _ => rfl
 | 1, _ => rfl
 | 2, _ => rfl
 | 3, _ => rfl
 | 4, _ => rfl
 | 5, _ => rfl
 | 6, _ => rfl
 | 7, _ => rfl
 | n + 8, h => by omega
theorem s9 (op : Nat) (ns : List Int) : mkC op ns ns.length = (mkE op ns).cells (.slice none 0 0) := by
 have h : ∀ k, (if k < ns.length then ns.getD k 0 else 0) = ns.getD k 0 := fun k => by
  split
  ·rfl
  ·rw [gy (by omega)]
 unfold mkC
 simp only [h]
 rfl
theorem sd (op : Nat) (ns : List Int) : ∀ v ∈ mkC op ns 0, v.oneCell' = true := by
 rw [vV]
 intro v hv
 simp at hv
 rcases hv with rfl | rfl | rfl | rfl <;> rfl
theorem sf : ∀ v ∈ mkZ, v.oneCell' = true := by
 intro v hv
 simp [mkZ] at hv
 rcases hv with rfl | rfl | rfl | rfl <;> rfl
theorem mi (op : Nat) (ns : List Int) : ∀ v ∈ (mkE op ns).cells (.slice none 0 0), v.oneCell' = true := (mkE op ns).one ⟨none, 0, 0, rfl⟩
theorem cj {ns : List Int} (h : ∀ n ∈ ns, I64 n) (k : Nat) : I64 (ns.getD k 0) := by
 by_cases hk : k < ns.length
 ·rw [List.getD_eq_getElem?_getD, List.getElem?_eq_getElem hk]
  exact h _ (List.getElem_mem hk)
 ·rw [gy (by omega)]
  exact ⟨by decide, by decide⟩
theorem gK {op : Nat} {ns : List Int} (ho : op ≤ 255) (h : ∀ n ∈ ns, I64 n) : (mkE op ns).ok := ⟨ho, by show 0 ≤ _; omega, cj h 0, cj h 1, cj h 2, cj h 3, cj h 4, cj h 5, cj h 6, cj h 7⟩
theorem dK {op : Nat} {ns : List Int} (h1 : 1 ≤ op) (h2 : op ≤ 15) (hl : ns.length ≤ ct.getD op 0) : (mkE op ns).e8.form := by
 refine ⟨h1, h2, Nat.zero_le _, fun i hi h8 => ?_⟩
 have hi : ct.getD op 0 ≤ i := hi
 have e : ns.getD i 0 = 0 := gy (by omega)
 have hc : i = 0 ∨ i = 1 ∨ i = 2 ∨ i = 3 ∨ i = 4 ∨ i = 5 ∨ i = 6 ∨ i = 7 := by omega
 rcases hc with rfl | rfl | rfl | rfl | rfl | rfl | rfl | rfl <;> exact e
set_option maxRecDepth 100000 in
theorem bV (op : Nat) (ns : List Int) (w : World) (p : Nat) (V : VA w p (ns.map fun n => Value.int .i64 n) 2) (hl : ns.length ≤ 8) :
  Calls prog 12 #[.int .u8 (op : Int), .slice (some ⟨p, 0, none⟩) ns.length ns.length] w fun r w' => r = .returned (.agg ((mkE op ns).cells (.slice none 0 0)).toArray) ∧ Below w.heap.size w w' := by
 obtain ⟨N, hN⟩ : ∃ N, N = ns.length := ⟨_, rfl⟩
 have HN : Hid (N = ns.length) := hN
 rw [← hN] at hl ⊢
 have b0 := (Below.refl w.heap.size w).alloc (Nat.le_refl _) (.cells #[.int .u8 0, .int .u64 0, .int .i64 0, .int .i64 0, .int .i64 0, .int .i64 0, .int .i64 0, .int .i64 0, .int .i64 0, .int .i64 0, .slice none 0 0] 31)
 have b1 := b0.alloc (by simp) (.cells #[.int .u8 0, .int .u64 0, .int .i64 0, .int .i64 0, .int .i64 0, .int .i64 0, .int .i64 0, .int .i64 0, .int .i64 0, .int .i64 0, .slice none 0 0] 31)
 have V0 := aa w mkZ 31
 have V00 := V0.alloc (.cells #[.int .u8 0, .int .u64 0, .int .i64 0, .int .i64 0, .int .i64 0, .int .i64 0, .int .i64 0, .int .i64 0, .int .i64 0, .int .i64 0, .slice none 0 0] 31)
 have hv1 := aa (w.alloc (.cells #[.int .u8 0, .int .u64 0, .int .i64 0, .int .i64 0, .int .i64 0, .int .i64 0, .int .i64 0, .int .i64 0, .int .i64 0, .int .i64 0, .slice none 0 0] 31)) mkZ 31
 rw [World.size_alloc] at hv1
 have HR_0 := hI_ V00
 have HE_0 := hI_ hv1
 have BB_0 := hI_ b1
 have HV := hI_ V
 clear b0 b1 V0 V00 hv1 V hN
 have g3 : (N : Int) ≤ 8 := by omega
 go_enter func12, ntmps12
 go_upto_region 2 with (refine stA rfl 31 _ _ rfl (w.heap.size + 1) (by rfl) mkZ (mkC op ns 0) (by rfl) 31 HE_0.out ao rfl (sd op ns) ?_; intro w1 v1 u1)
 have HE_1 := hI_ v1
 have HR_1 : Hid (VA w1 w.heap.size mkZ 31) := HR_0.out.upd u1 (by omega)
 have BB_1 : Hid (Below w.heap.size w w1) := u1.bel BB_0.out (by omega)
 clear v1 u1 HE_0 HR_0 BB_0
 go_wp2_with fail
 go_loopw [12] (fun i wr => ∃ k : Nat, k ≤ N ∧ i = .int .i64 (k : Int) ∧ Hid (VA wr (w.heap.size + 1) (mkC op ns k) 31) ∧ Hid (VA wr w.heap.size mkZ 31) ∧ Hid (Below w.heap.size w wr)) (fun i _ => N - (intOf i).toNat)
 case atStart => exact ⟨0, by omega, rfl, HE_1.out, HR_1.out, BB_1.out⟩
 case round =>
  obtain ⟨k, hk, rfl, HE, HR, HB⟩ := hrel
  by_cases hkn : k = N
  ·subst hkn
   have HE2 : Hid (VA wr (w.heap.size + 1) ((mkE op ns).cells (.slice none 0 0)) 31) := by have := HE.out; rw [HN.out, s9] at this; exact this
   clear HE
   go_wp2_with (first | (refine ldA rfl 31 _ rfl (w.heap.size + 1) (by rfl) _ _ HE2.out _ underlying31 rfl ao ?_) | (refine stA rfl 31 _ _ rfl w.heap.size (by rfl) mkZ ((mkE op ns).cells (.slice none 0 0)) (by rfl) 31 HR.out ao rfl (mi op ns) ?_; intro wf vf uf))
   have hld := run_loadVar_row (P := prog) wf w.heap.size 31 31 _ (0, 0) _ vf.blk underlying31 rfl ao
   exact bodyPost_ret (v := .agg ((mkE op ns).cells (.slice none 0 0)).toArray) (by simp [results, results12, asAddr, hld, Act.put]) rfl ⟨rfl, uf.bel HB.out (Nat.le_refl _)⟩
  have hk' : k < N := by omega
  have d1 : (0 : Int) ≤ (k : Int) := by omega
  have d2 : (k : Int) < (N : Int) := by omega
  have d3 : (k : Int) < 8 := by omega
  obtain ⟨x, hx⟩ : ∃ x, x = ns.getD k 0 := ⟨_, rfl⟩
  have HX := hI_ hx
  have cx : wr.cell? ⟨p, k, none⟩ = some (.int .i64 x) := (HV.out.step HB.out).cell k (by rw [List.getElem?_map, List.getElem?_eq_getElem (by have := HN.out; omega), hx, List.getD_eq_getElem?_getD, List.getElem?_eq_getElem (by have := HN.out; omega)]; rfl)
  have fe := HE.out.free (2 + k)
  obtain ⟨y, hy⟩ : ∃ y, wr.cell? ⟨w.heap.size + 1, 2 + k, none⟩ = some y := ⟨_, HE.out.cell (2 + k) (List.getElem?_eq_getElem (by show 2 + k < 11; omega))⟩
  have hbk := HE.out.blk
  clear hx
  go_wp2_with fail
  have U := av wr (w.heap.size + 1) (2 + k) (.int .i64 x)
  have V2 : VA (wr.setCell ⟨w.heap.size + 1, 2 + k, none⟩ (.int .i64 x)) (w.heap.size + 1) (mkC op ns (k + 1)) 31 := by
   rw [← se op ns k (by omega), ← HX.out]
   exact HE.out.set (2 + k) (.int .i64 x)
  exact ⟨⟨k + 1, by omega, by go_num, V2, HR.out.upd U (by omega), U.bel HB.out (by omega)⟩, by simp [intOf]; omega⟩
theorem fv : (prog.info? 2).map (fun i => (i.zero, i.size)) = some (some (.int .i64 0), 1) := by kernel_rfl
theorem mc : (prog.info? 31).map (fun i => (i.zero, i.size)) = some (some (.agg mkZ.toArray), 11) := by kernel_rfl
theorem uA : (prog.info? 102).map (fun i => (i.zero, i.size)) = some (some (.agg #[.int .i64 0, .int .i64 0]), 2) := by kernel_rfl
theorem fI1 (z0 : Int) : Instr.fill (fun i => some (i * 1, 1)) ((Array.range (1 * 1)).map ((Value.int .i64 0).cells[· % (Value.int .i64 0).cells.size]!)) [(0, Value.int .i64 z0)] = some (#[.int .i64 z0] : Array Value) := by kernel_rfl
theorem rI1 (z0 : Int) (w : World) : (Instr.buildSlice 80 1 #[(0, Value.int .i64 z0)]).run prog w = .ok (.slice (some ⟨w.heap.size, 0, none⟩) 1 1) (w.alloc (.cells #[.int .i64 z0] 2)) := by
 obtain ⟨i0, hi, hz⟩ := Option.map_eq_some_iff.1 fv
 simp only [Prod.mk.injEq] at hz
 refine run_buildSlice w 80 2 1 _ _ i0 (.int .i64 0) underlying80 hi hz.1 (by rw [hz.2]; decide) (by rw [hz.2]; decide) ?_
 rw [hz.2]
 exact fI1 z0
theorem fI2 (z0 z1 : Int) : Instr.fill (fun i => some (i * 1, 1)) ((Array.range (2 * 1)).map ((Value.int .i64 0).cells[· % (Value.int .i64 0).cells.size]!)) [(0, Value.int .i64 z0), (1, Value.int .i64 z1)] = some (#[.int .i64 z0, .int .i64 z1] : Array Value) := by kernel_rfl
theorem rI2 (z0 z1 : Int) (w : World) : (Instr.buildSlice 80 2 #[(0, Value.int .i64 z0), (1, Value.int .i64 z1)]).run prog w = .ok (.slice (some ⟨w.heap.size, 0, none⟩) 2 2) (w.alloc (.cells #[.int .i64 z0, .int .i64 z1] 2)) := by
 obtain ⟨i0, hi, hz⟩ := Option.map_eq_some_iff.1 fv
 simp only [Prod.mk.injEq] at hz
 refine run_buildSlice w 80 2 2 _ _ i0 (.int .i64 0) underlying80 hi hz.1 (by rw [hz.2]; decide) (by rw [hz.2]; decide) ?_
 rw [hz.2]
 exact fI2 z0 z1
theorem bI2 {w : World} {o : Oper} {a : Act} {K : Act → World → Prop} {Q : Exit → Act → World → Prop} (o0 o1 : Operand) (ho : o.op = .buildSlice 80 2 #[(0, o0), (1, o1)]) (z0 z1 : Int) (h0 : a.eval o0 = .int .i64 z0) (h1 : a.eval o1 = .int .i64 z1)
  (h : K (a.put o.dst (.slice (some ⟨w.heap.size, 0, none⟩) 2 2)) (w.alloc (.cells #[.int .i64 z0, .int .i64 z1] 2))) : o.wp prog a w K Q := by
 obtain ⟨i0, hi, hz⟩ := Option.map_eq_some_iff.1 fv
 simp only [Prod.mk.injEq] at hz
 refine wp_buildSlice 80 2 2 _ ho _ i0 (.int .i64 0) underlying80 hi hz.1 (by rw [hz.2]; decide) (by rw [hz.2]; decide) ?_ h
 rw [hz.2]
 simp only [List.map_toArray, List.map_cons, List.map_nil, h0, h1]
 exact fI2 z0 z1
theorem vI2 (w : World) (z0 z1 : Int) : VA (w.alloc (.cells #[.int .i64 z0, .int .i64 z1] 2)) w.heap.size (([z0, z1] : List Int).map fun n => Value.int .i64 n) 2 := aa w [.int .i64 z0, .int .i64 z1] 2
theorem fI3 (z0 z1 z2 : Int) : Instr.fill (fun i => some (i * 1, 1)) ((Array.range (3 * 1)).map ((Value.int .i64 0).cells[· % (Value.int .i64 0).cells.size]!)) [(0, Value.int .i64 z0), (1, Value.int .i64 z1), (2, Value.int .i64 z2)] = some (#[.int .i64 z0, .int .i64 z1, .int .i64 z2] : Array Value) := by kernel_rfl
theorem rI3 (z0 z1 z2 : Int) (w : World) : (Instr.buildSlice 80 3 #[(0, Value.int .i64 z0), (1, Value.int .i64 z1), (2, Value.int .i64 z2)]).run prog w = .ok (.slice (some ⟨w.heap.size, 0, none⟩) 3 3) (w.alloc (.cells #[.int .i64 z0, .int .i64 z1, .int .i64 z2] 2)) := by
 obtain ⟨i0, hi, hz⟩ := Option.map_eq_some_iff.1 fv
 simp only [Prod.mk.injEq] at hz
 refine run_buildSlice w 80 2 3 _ _ i0 (.int .i64 0) underlying80 hi hz.1 (by rw [hz.2]; decide) (by rw [hz.2]; decide) ?_
 rw [hz.2]
 exact fI3 z0 z1 z2
theorem vI3 (w : World) (z0 z1 z2 : Int) : VA (w.alloc (.cells #[.int .i64 z0, .int .i64 z1, .int .i64 z2] 2)) w.heap.size (([z0, z1, z2] : List Int).map fun n => Value.int .i64 n) 2 := aa w [.int .i64 z0, .int .i64 z1, .int .i64 z2] 2
theorem fI4 (z0 z1 z2 z3 : Int) : Instr.fill (fun i => some (i * 1, 1)) ((Array.range (4 * 1)).map ((Value.int .i64 0).cells[· % (Value.int .i64 0).cells.size]!)) [(0, Value.int .i64 z0), (1, Value.int .i64 z1), (2, Value.int .i64 z2), (3, Value.int .i64 z3)] = some (#[.int .i64 z0, .int .i64 z1, .int .i64 z2, .int .i64 z3] : Array Value) := by kernel_rfl
theorem rI4 (z0 z1 z2 z3 : Int) (w : World) : (Instr.buildSlice 80 4 #[(0, Value.int .i64 z0), (1, Value.int .i64 z1), (2, Value.int .i64 z2), (3, Value.int .i64 z3)]).run prog w = .ok (.slice (some ⟨w.heap.size, 0, none⟩) 4 4) (w.alloc (.cells #[.int .i64 z0, .int .i64 z1, .int .i64 z2, .int .i64 z3] 2)) := by
 obtain ⟨i0, hi, hz⟩ := Option.map_eq_some_iff.1 fv
 simp only [Prod.mk.injEq] at hz
 refine run_buildSlice w 80 2 4 _ _ i0 (.int .i64 0) underlying80 hi hz.1 (by rw [hz.2]; decide) (by rw [hz.2]; decide) ?_
 rw [hz.2]
 exact fI4 z0 z1 z2 z3
theorem fI8 (z0 z1 z2 z3 z4 z5 z6 z7 : Int) : Instr.fill (fun i => some (i * 1, 1)) ((Array.range (8 * 1)).map ((Value.int .i64 0).cells[· % (Value.int .i64 0).cells.size]!)) [(0, Value.int .i64 z0), (1, Value.int .i64 z1), (2, Value.int .i64 z2), (3, Value.int .i64 z3), (4, Value.int .i64 z4), (5, Value.int .i64 z5), (6, Value.int .i64 z6), (7, Value.int .i64 z7)] = some (#[.int .i64 z0, .int .i64 z1, .int .i64 z2, .int .i64 z3, .int .i64 z4, .int .i64 z5, .int .i64 z6, .int .i64 z7] : Array Value) := by kernel_rfl
theorem rI8 (z0 z1 z2 z3 z4 z5 z6 z7 : Int) (w : World) : (Instr.buildSlice 80 8 #[(0, Value.int .i64 z0), (1, Value.int .i64 z1), (2, Value.int .i64 z2), (3, Value.int .i64 z3), (4, Value.int .i64 z4), (5, Value.int .i64 z5), (6, Value.int .i64 z6), (7, Value.int .i64 z7)]).run prog w = .ok (.slice (some ⟨w.heap.size, 0, none⟩) 8 8) (w.alloc (.cells #[.int .i64 z0, .int .i64 z1, .int .i64 z2, .int .i64 z3, .int .i64 z4, .int .i64 z5, .int .i64 z6, .int .i64 z7] 2)) := by
 obtain ⟨i0, hi, hz⟩ := Option.map_eq_some_iff.1 fv
 simp only [Prod.mk.injEq] at hz
 refine run_buildSlice w 80 2 8 _ _ i0 (.int .i64 0) underlying80 hi hz.1 (by rw [hz.2]; decide) (by rw [hz.2]; decide) ?_
 rw [hz.2]
 exact fI8 z0 z1 z2 z3 z4 z5 z6 z7
theorem vI8 (w : World) (z0 z1 z2 z3 z4 z5 z6 z7 : Int) : VA (w.alloc (.cells #[.int .i64 z0, .int .i64 z1, .int .i64 z2, .int .i64 z3, .int .i64 z4, .int .i64 z5, .int .i64 z6, .int .i64 z7] 2)) w.heap.size (([z0, z1, z2, z3, z4, z5, z6, z7] : List Int).map fun n => Value.int .i64 n) 2 := aa w [.int .i64 z0, .int .i64 z1, .int .i64 z2, .int .i64 z3, .int .i64 z4, .int .i64 z5, .int .i64 z6, .int .i64 z7] 2
def ECS : List (EV × Value) → List Value
 | [] => []
 | x :: xs => x.1.cells x.2 ++ ECS xs
theorem iS : ∀ (xs : List (EV × Value)) (k : Nat) (x : EV × Value), xs[k]? = some x → ∀ (j : Nat) u, (x.1.cells x.2)[j]? = some u → (ECS xs)[k * 11 + j]? = some u
 | [], k, x, h, j, u, hu => by simp at h
 | y :: ys, 0, x, h, j, u, hu => by
  simp at h
  subst h
  unfold ECS
  rw [Nat.zero_mul, Nat.zero_add, List.getElem?_append_left (List.getElem?_eq_some_iff.1 hu).1]
  exact hu
 | y :: ys, k + 1, x, h, j, u, hu => by
  have h : ys[k]? = some x := by simpa using h
  unfold ECS
  have hl : (y.1.cells y.2).length = 11 := rfl
  rw [List.getElem?_append_right (by rw [hl]; omega), hl, show (k + 1) * 11 + j - 11 = k * 11 + j by omega]
  exact iS ys k x h j u hu
theorem fE3 (e0 : EV) (v0 : Value) (e1 : EV) (v1 : Value) (e2 : EV) (v2 : Value) : Instr.fill (fun i => some (i * 11, 11)) ((Array.range (3 * 11)).map ((Value.agg mkZ.toArray).cells[· % (Value.agg mkZ.toArray).cells.size]!)) [(0, Value.agg (e0.cells v0).toArray), (1, Value.agg (e1.cells v1).toArray), (2, Value.agg (e2.cells v2).toArray)] = some (ECS [(e0, v0), (e1, v1), (e2, v2)]).toArray := by kernel_rfl
theorem bE3 {w : World} {o : Oper} {a : Act} {K : Act → World → Prop} {Q : Exit → Act → World → Prop} (o0 o1 o2 : Operand) (ho : o.op = .buildSlice 70 3 #[(0, o0), (1, o1), (2, o2)]) (e0 : EV) (v0 : Value) (e1 : EV) (v1 : Value) (e2 : EV) (v2 : Value) (h0 : a.eval o0 = .agg (e0.cells v0).toArray) (h1 : a.eval o1 = .agg (e1.cells v1).toArray) (h2 : a.eval o2 = .agg (e2.cells v2).toArray)
  (h : K (a.put o.dst (.slice (some ⟨w.heap.size, 0, none⟩) 3 3)) (w.alloc (.cells (ECS [(e0, v0), (e1, v1), (e2, v2)]).toArray 31))) : o.wp prog a w K Q := by
 obtain ⟨i0, hi, hz⟩ := Option.map_eq_some_iff.1 mc
 simp only [Prod.mk.injEq] at hz
 refine wp_buildSlice 70 31 3 _ ho _ i0 (.agg mkZ.toArray) underlying70 hi hz.1 (by rw [hz.2]; decide) (by rw [hz.2]; decide) ?_ h
 rw [hz.2]
 simp only [List.map_toArray, List.map_cons, List.map_nil, h0, h1, h2]
 exact fE3 e0 v0 e1 v1 e2 v2
theorem fE6 (e0 : EV) (v0 : Value) (e1 : EV) (v1 : Value) (e2 : EV) (v2 : Value) (e3 : EV) (v3 : Value) (e4 : EV) (v4 : Value) (e5 : EV) (v5 : Value) : Instr.fill (fun i => some (i * 11, 11)) ((Array.range (6 * 11)).map ((Value.agg mkZ.toArray).cells[· % (Value.agg mkZ.toArray).cells.size]!)) [(0, Value.agg (e0.cells v0).toArray), (1, Value.agg (e1.cells v1).toArray), (2, Value.agg (e2.cells v2).toArray), (3, Value.agg (e3.cells v3).toArray), (4, Value.agg (e4.cells v4).toArray), (5, Value.agg (e5.cells v5).toArray)] = some (ECS [(e0, v0), (e1, v1), (e2, v2), (e3, v3), (e4, v4), (e5, v5)]).toArray := by kernel_rfl
theorem bE6 {w : World} {o : Oper} {a : Act} {K : Act → World → Prop} {Q : Exit → Act → World → Prop} (o0 o1 o2 o3 o4 o5 : Operand) (ho : o.op = .buildSlice 70 6 #[(0, o0), (1, o1), (2, o2), (3, o3), (4, o4), (5, o5)]) (e0 : EV) (v0 : Value) (e1 : EV) (v1 : Value) (e2 : EV) (v2 : Value) (e3 : EV) (v3 : Value) (e4 : EV) (v4 : Value) (e5 : EV) (v5 : Value) (h0 : a.eval o0 = .agg (e0.cells v0).toArray) (h1 : a.eval o1 = .agg (e1.cells v1).toArray) (h2 : a.eval o2 = .agg (e2.cells v2).toArray) (h3 : a.eval o3 = .agg (e3.cells v3).toArray) (h4 : a.eval o4 = .agg (e4.cells v4).toArray) (h5 : a.eval o5 = .agg (e5.cells v5).toArray)
  (h : K (a.put o.dst (.slice (some ⟨w.heap.size, 0, none⟩) 6 6)) (w.alloc (.cells (ECS [(e0, v0), (e1, v1), (e2, v2), (e3, v3), (e4, v4), (e5, v5)]).toArray 31))) : o.wp prog a w K Q := by
 obtain ⟨i0, hi, hz⟩ := Option.map_eq_some_iff.1 mc
 simp only [Prod.mk.injEq] at hz
 refine wp_buildSlice 70 31 6 _ ho _ i0 (.agg mkZ.toArray) underlying70 hi hz.1 (by rw [hz.2]; decide) (by rw [hz.2]; decide) ?_ h
 rw [hz.2]
 simp only [List.map_toArray, List.map_cons, List.map_nil, h0, h1, h2, h3, h4, h5]
 exact fE6 e0 v0 e1 v1 e2 v2 e3 v3 e4 v4 e5 v5
theorem fT1 (f r : Int) : Instr.fill (fun i => some (i * 2, 2)) ((Array.range (1 * 2)).map ((Value.agg #[.int .i64 0, .int .i64 0]).cells[· % (Value.agg #[.int .i64 0, .int .i64 0]).cells.size]!)) [(0, Value.agg #[.int .i64 f, .int .i64 r])] = some (#[.int .i64 f, .int .i64 r] : Array Value) := by kernel_rfl
theorem rT1 (f r : Int) (w : World) : (Instr.buildSlice 29 1 #[(0, Value.agg #[.int .i64 f, .int .i64 r])]).run prog w = .ok (.slice (some ⟨w.heap.size, 0, none⟩) 1 1) (w.alloc (.cells #[.int .i64 f, .int .i64 r] 102)) := by
 obtain ⟨i0, hi, hz⟩ := Option.map_eq_some_iff.1 uA
 simp only [Prod.mk.injEq] at hz
 refine run_buildSlice w 29 102 1 _ _ i0 _ underlying29 hi hz.1 (by rw [hz.2]; decide) (by rw [hz.2]; decide) ?_
 rw [hz.2]
 exact fT1 f r
def PE : EV := ⟨1, 0, 1, 1, 0, 1, 1, 0, 0, 500, [(0, 36500000)]⟩
theorem uM (w : World) (f r : Int) (hf : I64 f) (hr : I64 r) : OwnT (w.alloc (.cells #[.int .i64 f, .int .i64 r] 102)) w.heap.size (.slice (some ⟨w.heap.size, 0, none⟩) 1 1) [(f, r)] :=
 ⟨fun t ht => by simp at ht; subst ht; exact ⟨hf, hr⟩, rfl, Or.inr ⟨w.heap.size, 1, #[.int .i64 f, .int .i64 r], rfl, Nat.le_refl _, (aa w [.int .i64 f, .int .i64 r] 102).blk, Nat.le_refl _, by unfold maxLen; omega, rfl, rfl⟩⟩
structure Good (M : PM) (e : EV) : Prop where
 ok : e.ok
 op : 1 ≤ e.op ∧ e.op ≤ 11
 form : e.e8.form
 yes : refL M e true = 0
 len : e.ts.length ≤ 8
 fin : e.op = 2 → plc M.al e.n0 = M.al.length
theorem lH {w : World} {B : Nat} {F : FB} {M : PM} {e : EV} (g : Good M e) (hM : MD w B F M) (hcn : M.cnt) (hs : M.seq < 1000000000) (T : TBL w) (hB : 6 ≤ B) {tv : Value} (R : Tr w tv e.ts) (hno : ∀ n c, tv = .slice none n c → c = 0) :
  Calls prog 11 #[.pointer (some ⟨F.pm, 0, none⟩), .agg (e.cells tv).toArray] w fun r w' => r = .returned (.bool true) ∧ (∃ F', MD w' B F' (nxt M e) ∧ F'.pm = F.pm) ∧ But (F.reach w B) w w' :=
 nU w B F M hM hcn hs T hB e g.ok tv R hno true (by simp [g.form]) g.op g.yes (by have := g.len; omega) g.fin
def runM (M : PM) (es : List EV) : PM := es.foldl nxt M
theorem iL (M : PM) (es : List EV) {k : Nat} {e : EV} (h : es[k]? = some e) : runM M (es.take (k + 1)) = nxt (runM M (es.take k)) e := by
 obtain ⟨hl, he⟩ := List.getElem?_eq_some_iff.1 h
 unfold runM
 rw [List.take_add_one, h]
 simp
theorem kh (M : PM) (es : List EV) : (runM M es).seq = M.seq + es.length := by
 unfold runM
 induction es generalizing M with
 | nil => simp
 | cons e es ih =>
  rw [List.foldl_cons, ih]
  have : (nxt M e).seq = M.seq + 1 := by show (chg M e).seq + 1 = _; rw [cw]
  rw [this, List.length_cons]
  omega
theorem qj {M : PM} (h : M.cnt) : ∀ (es : List EV), M.seq + es.length ≤ 1000000000 → (runM M es).cnt := by
 intro es
 unfold runM
 induction es generalizing M with
 | nil => intro _; exact h
 | cons e es ih =>
  intro hs
  rw [List.length_cons] at hs
  rw [List.foldl_cons]
  refine ih (fZ h (by omega) e) ?_
  have : (nxt M e).seq = M.seq + 1 := by show (chg M e).seq + 1 = _; rw [cw]
  omega
theorem OwnT.keptM {w w' : World} {B B' : Nat} {F : FB} {M : PM} {tv : Value} {ts : List (Int × Int)} (o : OwnT w B' tv ts) (h : MD w B F M) (k : But (F.reach w B) w w') : OwnT w' B' tv ts := by
 refine o.blk' (fun g hg => ?_)
 obtain ⟨cs, e⟩ := o.blkT hg
 have V : VA w g cs.toList 102 := ⟨by simpa using e⟩
 exact k.block g V.lt (h.reach_ty V (by decide))
structure BK (w : World) (B p : Nat) (M : PM) : Prop where
 md : ∃ F, MD w B F M ∧ F.pm = p
 tb : TBL w
 six : 6 ≤ B
 cnt : M.cnt
structure KT (B : Nat) (w w' : World) : Prop where
 va : ∀ {p : Nat} {cs : List Value} {T : TypeId}, VA w p cs T → T ∉ mT → VA w' p cs T
 ot : ∀ {B' : Nat} {v : Value} {ts : List (Int × Int)}, OwnT w B' v ts → OwnT w' B' v ts
 bel : Below B w w'
theorem KT.of {B : Nat} {w w' : World} (k : Below w.heap.size w w') (hB : B ≤ w.heap.size) : KT B w w' := ⟨fun v _ => v.step k, fun o => o.step k, k.mono hB⟩
theorem KT.trans {B : Nat} {a b c : World} (h : KT B a b) (k : KT B b c) : KT B a c := ⟨fun v hT => k.va (h.va v hT) hT, fun o => k.ot (h.ot o), h.bel.trans k.bel⟩
theorem BK.low {w : World} {B p : Nat} {M : PM} (h : BK w B p M) : B ≤ w.heap.size := by
 obtain ⟨F, hM, _⟩ := h.md
 exact hM.lt
theorem BK.step {w w' : World} {B p : Nat} {M : PM} (h : BK w B p M) (k : Below w.heap.size w w') : BK w' B p M := by
 obtain ⟨F, hM, hp⟩ := h.md
 exact ⟨⟨F, hM.step k, hp⟩, h.tb.step k, h.six, h.cnt⟩
theorem BK.upd {w w' : World} {B p q : Nat} {M : PM} {cs : List Value} {T : TypeId} (h : BK w B p M) (v : VA w q cs T) (hT : T ≠ 100 ∧ T ≠ 85 ∧ T ≠ 81 ∧ T ≠ 144 ∧ T ≠ 154 ∧ T ≠ 208 ∧ T ≠ 102) (k : Upd q w w') (hq : 6 ≤ q) : BK w' B p M := by
 obtain ⟨F, hM, hp⟩ := h.md
 exact ⟨⟨F, hM.but k.but (fun i hi => by rw [hi]; exact dI v hT), hp⟩, h.tb.but k.but (fun i hi => by rw [hi]; exact hq), h.six, h.cnt⟩
theorem oB (w : World) (T : TBL w) (h6 : 6 ≤ w.heap.size) (d : Int) (h1 : 1 ≤ d) (h2 : d ≤ 3652059) : Calls prog 27 #[.int .i64 d] w fun e w' => ∃ p : Nat, e = .returned (.tuple #[.pointer (some ⟨p, 0, none⟩), .int .i64 0]) ∧ BK w' w.heap.size p (bank0 d) ∧ Below w.heap.size w w' := by
 refine (sg w d h1 h2).mono ?_
 rintro e w' ⟨F, rfl, hM, _, _, b⟩
 exact ⟨F.pm, rfl, ⟨⟨F, hM, rfl⟩, T.step b, h6, ⟨by show (0 : Int) ≤ 0; decide, by show (0 : Int) ≤ 0; decide, ⟨by show (0 : Int) ≤ 0; decide, by show (0 : Int) ≤ 2 * 0; decide⟩, ⟨by show (0 : Int) ≤ 0; decide, by show (0 : Int) ≤ _; decide⟩⟩⟩, b⟩
theorem jO {w w' : World} {B : Nat} {F : FB} {M : PM} (h : MD w B F M) (k : But (F.reach w B) w w') : KT B w w' := ⟨fun v hT => v.keptM h k hT, fun o => o.keptM h k, k.below h.lt (fun i hi => h.reach_low hi)⟩
theorem gp {w : World} {B p : Nat} {M : PM} {e : EV} (h : BK w B p M) (g : Good M e) (hs : M.seq < 1000000000) {tv : Value} (R : Tr w tv e.ts) (hno : ∀ n c, tv = .slice none n c → c = 0) :
  Calls prog 11 #[.pointer (some ⟨p, 0, none⟩), .agg (e.cells tv).toArray] w fun r w' => r = .returned (.bool true) ∧ BK w' B p (nxt M e) ∧ KT B w w' := by
 obtain ⟨F, hM, rfl⟩ := h.md
 refine (lH g hM h.cnt hs h.tb h.six R hno).mono ?_
 rintro r w' ⟨rfl, ⟨F', h1, h2⟩, k⟩
 exact ⟨rfl, ⟨⟨F', h1, h2⟩, h.tb.keptM hM k h.six, h.six, fZ h.cnt hs e⟩, jO hM k⟩
theorem kP {w : World} {B p : Nat} {M : PM} {e : EV} (h : BK w B p M) (he : e.ok) {tv : Value} (R : Tr w tv e.ts) (hno : ∀ n c, tv = .slice none n c → c = 0) (hform : e.e8.form) {want : Int} (hr : refL M e true = want) (hw : want ≠ 0) :
  Calls prog 13 #[.pointer (some ⟨p, 0, none⟩), .agg (e.cells tv).toArray, .int .i64 want] w fun r w' => r = .returned (.bool true) ∧ BK w' B p M ∧ KT B w w' := by
 obtain ⟨F, hM, rfl⟩ := h.md
 refine (jS w B F M hM e he tv R hno h.tb true (by simp [hform]) want hr hw).mono ?_
 rintro r w' ⟨rfl, b⟩
 exact ⟨rfl, h.step b, KT.of b h.low⟩
theorem kO {w : World} {B p : Nat} {M : PM} {e : EV} (h : BK w B p M) (he : e.ok) {tv : Value} (R : Tr w tv e.ts) (hno : ∀ n c, tv = .slice none n c → c = 0) {f : Bool} (hform : f = true ↔ e.e8.form) {want : Int} (hr : refL M e f = want) (hw : want ≠ 0) :
  Calls prog 19 #[.pointer (some ⟨p, 0, none⟩), .agg (e.cells tv).toArray] w fun r w' => r = .returned (.tuple #[.agg #[.int .u8 0, .int .u64 0, .int .i64 0, .int .i64 0, .int .i64 0, .int .i64 0, .int .i64 0, .int .i64 0, .int .i64 0, .int .i64 0, .slice none 0 0], .int .i64 0, .int .i64 want]) ∧ BK w' B p M ∧ KT B w w' := by
 obtain ⟨F, hM, rfl⟩ := h.md
 subst hr
 refine (mq w B F M hM e he tv R hno h.tb f hform hw).mono ?_
 rintro r w' ⟨rfl, b⟩
 exact ⟨rfl, h.step b, KT.of b h.low⟩
theorem rn {w : World} {B p : Nat} {M : PM} {e : EV} (h : BK w B p M) (g : Good M e) {tv : Value} (R : Tr w tv e.ts) (hno : ∀ n c, tv = .slice none n c → c = 0) :
  Calls prog 19 #[.pointer (some ⟨p, 0, none⟩), .agg (e.cells tv).toArray] w fun r w' => ∃ u, r = .returned (.tuple #[.agg (e.cells u).toArray, .int .i64 e.mv, .int .i64 0]) ∧ OwnT w' w.heap.size u e.ts ∧ BK w' B p M ∧ KT B w w' := by
 obtain ⟨F, hM, rfl⟩ := h.md
 refine (gQ w B F M hM e g.ok tv R hno h.tb true (by simp [g.form]) g.yes (by have := g.op; omega) (by have := g.len; omega)).mono ?_
 rintro r w' ⟨⟨u, rfl, o⟩, b⟩
 exact ⟨u, rfl, o, h.step b, KT.of b h.low⟩
theorem oA {w : World} {B p : Nat} {M : PM} {e : EV} (h : BK w B p M) (g : Good M e) (hs : M.seq < 1000000000) {tv : Value} (R : Tr w tv e.ts) (hno : ∀ n c, tv = .slice none n c → c = 0) :
  Calls prog 29 #[.pointer (some ⟨p, 0, none⟩), .agg (e.cells tv).toArray] w fun r w' => r = .returned (.int .i64 0) ∧ BK w' B p (nxt M e) ∧ KT B w w' := by
 obtain ⟨F, hM, rfl⟩ := h.md
 refine (im w B F M hM h.cnt hs h.tb h.six e g.ok tv R hno true (by simp [g.form]) g.op g.yes (by have := g.len; omega) g.fin).mono ?_
 rintro r w' ⟨F', rfl, h1, h2, _, k⟩
 exact ⟨rfl, ⟨⟨F', h1, h2⟩, h.tb.keptM hM k h.six, h.six, fZ h.cnt hs e⟩, jO hM k⟩
theorem kN {w : World} {B p : Nat} {M : PM} (h : BK w B p M) {id : Int} {a : PA} (ha : acctO M id = some a) :
  Calls prog 14 #[.pointer (some ⟨p, 0, none⟩), .int .i64 id] w fun r w' => r = .returned (.tuple #[.agg a.told.toArray, .int .i64 0]) ∧ BK w' B p M ∧ KT B w w' := by
 obtain ⟨F, hM, rfl⟩ := h.md
 obtain ⟨i, x, hi, hid, _⟩ := hM.acct ha
 refine (jT w B F M hM hi hid).mono ?_
 rintro r w' ⟨rfl, b⟩
 exact ⟨rfl, h.step b, KT.of b h.low⟩
theorem tY {w : World} {B p : Nat} {M : PM} (h : BK w B p M) {s : Int} (hs : M.seq = s) : Calls prog 20 #[.pointer (some ⟨p, 0, none⟩)] w fun e w' => e = .returned (.int .i64 s) ∧ w' = w := by
 subst hs
 obtain ⟨F, hM, rfl⟩ := h.md
 exact si w B F M hM
theorem tX {w : World} {B p : Nat} {M : PM} (h : BK w B p M) {s : Int} (hs : M.day = s) : Calls prog 33 #[.pointer (some ⟨p, 0, none⟩)] w fun e w' => e = .returned (.int .i64 s) ∧ w' = w := by
 subst hs
 obtain ⟨F, hM, rfl⟩ := h.md
 exact s8 w B F M hM
theorem fl (w : World) : Tr w (.slice none 0 0) [] := (cq w 0).tr
theorem fd : ∀ n c, Value.slice none 0 0 = .slice none n c → c = 0 := fun n c h => by cases h; rfl
theorem mK (d : Int) : (bank0 d).cnt := ⟨by show (0 : Int) ≤ 0; decide, by show (0 : Int) ≤ 0; decide, ⟨by show (0 : Int) ≤ 0; decide, by show (0 : Int) ≤ 2 * 0; decide⟩, ⟨by show (0 : Int) ≤ 0; decide, by show (0 : Int) ≤ _; decide⟩⟩
set_option maxRecDepth 100000 in
theorem dx (w : World) : Calls prog 28 #[] w fun r w' => (∃ tv, r = .returned (.agg (PE.cells tv).toArray) ∧ OwnT w' w.heap.size tv [(0, 36500000)]) ∧ Below w.heap.size w w' := by
 have b0 := (Below.refl w.heap.size w).alloc (Nat.le_refl _) (.cells #[.int .u8 0, .int .u64 0, .int .i64 0, .int .i64 0, .int .i64 0, .int .i64 0, .int .i64 0, .int .i64 0, .int .i64 0, .int .i64 0, .slice none 0 0] 31)
 have b1 := b0.alloc (by simp) (.cells #[.int .i64 1, .int .i64 1, .int .i64 0, .int .i64 1, .int .i64 1, .int .i64 0, .int .i64 0, .int .i64 500] 2)
 have HR_0 := hI_ ((aa w mkZ 31).alloc (.cells #[.int .i64 1, .int .i64 1, .int .i64 0, .int .i64 1, .int .i64 1, .int .i64 0, .int .i64 0, .int .i64 500] 2))
 have q := vI8 (w.alloc (.cells #[.int .u8 0, .int .u64 0, .int .i64 0, .int .i64 0, .int .i64 0, .int .i64 0, .int .i64 0, .int .i64 0, .int .i64 0, .int .i64 0, .slice none 0 0] 31)) 1 1 0 1 1 0 0 500
 rw [World.size_alloc] at q
 have HL_0 := hI_ q
 have BB_0 := hI_ b1
 have hb8 := @rI8
 have hb1 := @rT1
 clear b0 b1 q
 go_enter func28, ntmps28
 go_wp2_with fail
 refine (bV 1 [1, 1, 0, 1, 1, 0, 0, 500] _ (w.heap.size + 1) HL_0.out (by show 8 ≤ 8; decide)).mono ?_
 rintro r w1 ⟨rfl, b1⟩
 have HR_1 : Hid (VA w1 w.heap.size mkZ 31) := HR_0.out.step b1
 have BB_1 : Hid (Below w.heap.size w w1) := BB_0.out.trans (b1.mono BB_0.out.size)
 have bA := (Below.refl w1.heap.size w1).alloc (Nat.le_refl _) (.cells #[.int .u8 0, .int .u64 0, .int .i64 0, .int .i64 0, .int .i64 0, .int .i64 0, .int .i64 0, .int .i64 0, .int .i64 0, .int .i64 0, .slice none 0 0] 31)
 have HV := hI_ (aa w1 mkZ 31)
 have HR_2 := hI_ (HR_1.out.step bA)
 have BB_2 := hI_ (BB_1.out.trans (bA.mono BB_1.out.size))
 have l1 := HR_1.out.lt
 have s1 := BB_1.out.size
 clear b1 bA HR_0 HL_0 BB_0 HR_1 BB_1
 go_upto_region 2 with (refine stA rfl 31 _ _ rfl w1.heap.size (by rfl) mkZ ((mkE 1 [1, 1, 0, 1, 1, 0, 0, 500]).cells (.slice none 0 0)) (by rfl) 31 HV.out ao rfl (mi _ _) ?_; intro w2 v2 u2)
 have HV_2 := hI_ v2
 have HR_3 : Hid (VA w2 w.heap.size mkZ 31) := HR_2.out.upd u2 (by omega)
 have BB_3 : Hid (Below w.heap.size w w2) := u2.bel BB_2.out s1
 clear v2 u2 HV HR_2 BB_2
 have q := uM w2 0 36500000 ⟨by decide, by decide⟩ ⟨by decide, by decide⟩
 have HQ := hI_ q
 have V4 := HV_2.out.alloc (.cells #[.int .i64 0, .int .i64 36500000] 102)
 have b4 := (Below.refl w2.heap.size w2).alloc (Nat.le_refl _) (.cells #[.int .i64 0, .int .i64 36500000] 102)
 have c10 := V4.cell 10 (v := .slice none 0 0) rfl
 have f10 := V4.free 10
 have hbk := V4.blk
 have HV_4 := hI_ V4
 have HR_4 := hI_ (HR_3.out.step b4)
 have BB_4 := hI_ (BB_3.out.trans (b4.mono BB_3.out.size))
 clear q V4 b4
 go_upto_region 3 with fail
 have U := av (w2.alloc (.cells #[.int .i64 0, .int .i64 36500000] 102)) w1.heap.size 10 (.slice (some ⟨w2.heap.size, 0, none⟩) 1 1)
 have HV_5 : Hid (VA _ w1.heap.size (PE.cells (.slice (some ⟨w2.heap.size, 0, none⟩) 1 1)) 31) := HV_4.out.set 10 (.slice (some ⟨w2.heap.size, 0, none⟩) 1 1)
 have HR_5 := hI_ (HR_4.out.upd U (by omega))
 have HQ_5 := hI_ (OwnT.updV HQ.out HV_4.out (by decide) U)
 have BB_5 := hI_ (U.bel BB_4.out s1)
 have s2 := BB_3.out.size
 clear c10 f10 hbk U HV_2 HR_3 BB_3 HQ HV_4 HR_4 BB_4
 generalize (w2.alloc (.cells #[.int .i64 0, .int .i64 36500000] 102)).setCell ⟨w1.heap.size, 10, none⟩ (.slice (some ⟨w2.heap.size, 0, none⟩) 1 1) = w5 at *
 go_wp2_with (first | (refine ldA rfl 31 _ rfl w1.heap.size (by rfl) _ _ HV_5.out _ underlying31 rfl ao ?_) | (refine stA rfl 31 _ _ rfl w.heap.size (by rfl) mkZ (PE.cells (.slice (some ⟨w2.heap.size, 0, none⟩) 1 1)) (by rfl) 31 HR_5.out ao rfl (PE.one ⟨_, _, _, rfl⟩) ?_; intro wf vf uf))
 have hld := run_loadVar_row (P := prog) wf w.heap.size 31 31 _ (0, 0) _ vf.blk underlying31 rfl ao
 exact bodyPost_ret (v := .agg (PE.cells (.slice (some ⟨w2.heap.size, 0, none⟩) 1 1)).toArray) (by simp [results, results28, asAddr, hld, Act.put]) rfl ⟨⟨_, rfl, (OwnT.updV HQ_5.out HR_5.out (by decide) uf).lower s2⟩, uf.bel BB_5.out (Nat.le_refl _)⟩
end Go.Proofs.YtjkiplndbcmmbaaGreatDoor
namespace Go.Proofs.YtjkiplndbcmmbaaGreatDoor
open Go.RowKit Go.Maps
def PL (k d c lim : Int) : EV := ⟨1, 0, k, d, c, 1, 1, 0, 0, lim, [(0, 36500000)]⟩
def AO (k c d : Int) : PA := ⟨k, k, c, d, true, 0, 0, 0, []⟩
def LB1 (l : Int) : PM := ⟨100, [(PL 1 1 0 l).pv], [], [], fun _ _ => 0, 0, [], false, 0, 0, 1⟩
def LB2 (l m : Int) : PM := ⟨100, [(PL 1 1 0 l).pv, (PL 2 2 0 m).pv], [], [], fun _ _ => 0, 0, [], false, 0, 0, 2⟩
def LB3 (l m : Int) : PM := ⟨100, [(PL 1 1 0 l).pv, (PL 2 2 0 m).pv, (PL 3 1 1 500).pv], [], [], fun _ _ => 0, 0, [], false, 0, 0, 3⟩
def LB4 (l m : Int) : PM := ⟨100, [(PL 1 1 0 l).pv, (PL 2 2 0 m).pv, (PL 3 1 1 500).pv], [AO 1 0 1], [], fun _ _ => 0, 0, [], false, 0, 0, 4⟩
def LB5 (l m : Int) : PM := ⟨100, [(PL 1 1 0 l).pv, (PL 2 2 0 m).pv, (PL 3 1 1 500).pv], [AO 1 0 1, AO 2 0 2], [], fun _ _ => 0, 0, [], false, 0, 0, 5⟩
def LB (l m : Int) : PM := ⟨100, [(PL 1 1 0 l).pv, (PL 2 2 0 m).pv, (PL 3 1 1 500).pv], [AO 1 0 1, AO 2 0 2, AO 3 1 1], [], fun _ _ => 0, 0, [], false, 0, 0, 6⟩
theorem td : I64 0 := ⟨by decide, by decide⟩
theorem pf : I64 1 := ⟨by decide, by decide⟩
theorem vX {k d c lim : Int} (hk : I64 k) (hd : I64 d) (hc : I64 c) (hl : I64 lim) : (PL k d c lim).ok := ⟨by show 1 ≤ 255; decide, by show 0 ≤ _; omega, hk, hd, hc, pf, pf, td, td, hl⟩
theorem sA (k d c lim : Int) : (PL k d c lim).e8.form := ⟨by show 1 ≤ 1; decide, by show 1 ≤ 15; decide, by show 1 ≤ most 1; decide, fun i h1 h2 => by have h1 : 8 ≤ i := h1; omega⟩
theorem uO {k d c lim : Int} (hk : 1 ≤ k ∧ k ≤ 1000000000) (hd : 1 ≤ d ∧ d ≤ 2) (hc : 0 ≤ c ∧ c ≤ 3) (hl : 0 ≤ lim ∧ lim ≤ 10000000000000) : chk (PL k d c lim).pv = 0 := by
 have e : (PL k d c lim).pv.inr = true := by
  unfold PV.inr wi PL EV.pv
  simp
  omega
 unfold chk
 rw [if_pos e]
 show terr [(0, 36500000)] = 0
 decide
theorem ga {M : PM} {k d c lim : Int} (hk : 1 ≤ k ∧ k ≤ 1000000000) (hd : 1 ≤ d ∧ d ≤ 2) (hc : 0 ≤ c ∧ c ≤ 3) (hl : 0 ≤ lim ∧ lim ≤ 10000000000000) (h1 : M.keys = []) (h2 : M.uw = false) (h3 : fol M.vs (PL k d c lim).pv = 0) (h4 : M.vs.length < 64) : Good M (PL k d c lim) := by
 refine ⟨vX ⟨by omega, by omega⟩ ⟨by omega, by omega⟩ ⟨by omega, by omega⟩ ⟨by omega, by omega⟩, ⟨by show 1 ≤ 1; decide, by show 1 ≤ 11; decide⟩, sA _ _ _ _, ?_, by show 1 ≤ 8; decide, fun h => by cases h⟩
 rw [jh rfl (fun h => by have h : 1 = 12 := h.1; omega) rfl (by unfold usedK; rw [h1]; rfl) h2]
 show wth 0 (addE M.vs (PL k d c lim).pv) = 0
 rw [wth_0]
 refine ⟨rfl, ?_⟩
 unfold addE
 rw [if_neg (fun h => h (uO hk hd hc hl)), if_neg (fun h => h h3), if_neg (by omega)]
theorem g8 {M : PM} {k p : Int} (hk : 1 ≤ k ∧ k ≤ 1000000000) (hp : I64 p) (h1 : M.keys = []) (h2 : M.uw = false) (h3 : (verO M p).isSome = true) (h4 : (acctO M k).isSome = false) (h5 : M.al.length < 256) (h6 : plc M.al k = M.al.length) : Good M (mkE 2 [k, p]) := by
 refine ⟨gK (by decide) (fun n hn => ?_), ⟨by show 1 ≤ 2; decide, by show 2 ≤ 11; decide⟩, dK (by decide) (by decide) (by show 2 ≤ ct.getD 2 0; decide), ?_, by show 0 ≤ 8; decide, fun _ => h6⟩
 ·simp at hn
  rcases hn with rfl | rfl
  ·exact ⟨by omega, by omega⟩
  ·exact hp
 ·rw [jh rfl (fun h => by have := h.1; cases this) rfl (by unfold usedK; rw [h1]; rfl) h2]
  show openL M 0 k p = 0
  unfold openL
  rw [aF (by decide), aF (by decide), wth_0, aF (by decide), h3]
  exact ⟨⟨⟨⟨rfl, beyond_0.2 hk⟩, rfl⟩, h4⟩, by rw [decide_eq_false_iff_not]; omega⟩
theorem rV (l m : Int) (hl : 0 ≤ l ∧ l ≤ 10000000000000) (hm : 0 ≤ m ∧ m ≤ 10000000000000) : Good (bank0 100) (PL 1 1 0 l) ∧ Good (LB1 l) (PL 2 2 0 m) ∧ Good (LB2 l m) (PL 3 1 1 500) ∧ Good (LB3 l m) (mkE 2 [1, 1]) ∧ Good (LB4 l m) (mkE 2 [2, 2]) ∧ Good (LB5 l m) (mkE 2 [3, 3]) := by
 refine ⟨ga (by decide) (by decide) (by decide) hl rfl rfl rfl (by decide), ga (by decide) (by decide) (by decide) hm rfl rfl rfl (by show 1 < 64; decide), ga (by decide) (by decide) (by decide) (by decide) rfl rfl rfl (by show 2 < 64; decide), g8 (by decide) ⟨by decide, by decide⟩ rfl rfl rfl rfl (by show 0 < 256; decide) rfl, g8 (by decide) ⟨by decide, by decide⟩ rfl rfl rfl rfl (by show 1 < 256; decide) rfl, g8 (by decide) ⟨by decide, by decide⟩ rfl rfl rfl rfl (by show 2 < 256; decide) rfl⟩
def LC (l m : Int) : List EV := [PL 1 1 0 l, PL 2 2 0 m, PL 3 1 1 500, mkE 2 [1, 1], mkE 2 [2, 2], mkE 2 [3, 3]]
theorem uE (l m : Int) : runM (bank0 100) (LC l m) = LB l m := rfl
theorem rW {l m : Int} (hl : 0 ≤ l ∧ l ≤ 10000000000000) (hm : 0 ≤ m ∧ m ≤ 10000000000000) : ∀ (k : Nat) e, (LC l m)[k]? = some e → Good (runM (bank0 100) ((LC l m).take k)) e := by
 obtain ⟨g1, g2, g3, g4, g5, g6⟩ := rV l m hl hm
 intro k e h
 have hk : k < 6 := (List.getElem?_eq_some_iff.1 h).1
 have hc : k = 0 ∨ k = 1 ∨ k = 2 ∨ k = 3 ∨ k = 4 ∨ k = 5 := by omega
 rcases hc with rfl | rfl | rfl | rfl | rfl | rfl <;> cases h
 ·exact g1
 ·exact g2
 ·exact g3
 ·exact g4
 ·exact g5
 ·exact g6
theorem ue (M : PM) (e : EV) (h : e.op ≠ 1) : (chg M e).vs = M.vs := eD (P := fun X => X.vs = M.vs) M e (fun k => absurd k h) (fun _ => rfl) (fun _ => rfl) (fun _ => rfl) (fun _ => rfl) (fun _ => rfl) (fun _ => rfl) (fun _ => rfl) (fun _ => rfl) (fun _ => rfl) (fun _ => rfl) (fun _ => rfl)
theorem rz (M : PM) (e : EV) : (chg M e).day = M.day := eD (P := fun X => X.day = M.day) M e (fun _ => rfl) (fun _ => rfl) (fun _ => rfl) (fun _ => rfl) (fun _ => rfl) (fun _ => rfl) (fun _ => rfl) (fun _ => rfl) (fun _ => rfl) (fun _ => rfl) (fun _ => rfl) (fun _ => rfl)
theorem ud (M : PM) (e : EV) : (chg M e).uw = M.uw := eD (P := fun X => X.uw = M.uw) M e (fun _ => rfl) (fun _ => rfl) (fun _ => rfl) (fun _ => rfl) (fun _ => rfl) (fun _ => rfl) (fun _ => rfl) (fun _ => rfl) (fun _ => rfl) (fun _ => rfl) (fun _ => rfl) (fun _ => rfl)
structure S3 (M : PM) (l m : Int) (a1 a2 a3 : PA) (s : Int) : Prop where
 al : M.al = [a1, a2, a3]
 vs : M.vs = (LB l m).vs
 day : M.day = 100
 keys : M.keys = []
 uw : M.uw = false
 cnt : M.cnt
 seq : M.seq = s
 i1 : a1.id = 1
 i2 : a2.id = 2
 i3 : a3.id = 3
theorem uD (l m : Int) : (LB l m).cnt := by
 rw [← uE]
 exact qj (mK 100) _ (by show (0 : Int) + 6 ≤ _; decide)
theorem wo (l m : Int) : S3 (LB l m) l m (AO 1 0 1) (AO 2 0 2) (AO 3 1 1) 6 := ⟨rfl, rfl, rfl, rfl, rfl, uD l m, rfl, rfl, rfl, rfl⟩
theorem S3.a1 {M : PM} {l m : Int} {a1 a2 a3 : PA} {s : Int} (h : S3 M l m a1 a2 a3 s) : acctO M 1 = some a1 := by
 unfold acctO
 rw [h.al, List.find?_cons_of_pos (by simp [h.i1])]
theorem S3.a3 {M : PM} {l m : Int} {a1 a2 a3 : PA} {s : Int} (h : S3 M l m a1 a2 a3 s) : acctO M 3 = some a3 := by
 unfold acctO
 rw [h.al, List.find?_cons_of_neg (by simp [h.i1]), List.find?_cons_of_neg (by simp [h.i2]), List.find?_cons_of_pos (by simp [h.i3])]
theorem S3.v1 {M : PM} {l m : Int} {a1 a2 a3 : PA} {s : Int} (h : S3 M l m a1 a2 a3 s) : (ver M 1).lim = l := by
 unfold ver verO
 rw [h.vs, h.day]
 rfl
theorem S3.next {M : PM} {l m : Int} {a1 a2 a3 : PA} {s : Int} (h : S3 M l m a1 a2 a3 s) {e : EV} (hk : e.key = 0) (hop : e.op ≠ 1) (hs : s < 1000) {b1 b2 b3 : PA} (ha : (chg M e).al = [b1, b2, b3]) (j1 : b1.id = 1) (j2 : b2.id = 2) (j3 : b3.id = 3) : S3 (nxt M e) l m b1 b2 b3 (s + 1) := by
 refine ⟨ha, (ue M e hop).trans h.vs, (rz M e).trans h.day, ?_, (ud M e).trans h.uw, fZ h.cnt (by rw [h.seq]; omega) e, ?_, j1, j2, j3⟩
 ·show useL (chg M e).keys e.key = []
  rw [hk, eT, h.keys]
  rfl
 ·show (chg M e).seq + 1 = s + 1
  rw [cw, h.seq]
theorem tz {a b : Int} (h1 : I64 a) (h2 : I64 b) : ∀ n ∈ [a, b], I64 n := fun n hn => by simp at hn; rcases hn with rfl | rfl <;> assumption
theorem tA {a b c : Int} (h1 : I64 a) (h2 : I64 b) (h3 : I64 c) : ∀ n ∈ [a, b, c], I64 n := fun n hn => by simp at hn; rcases hn with rfl | rfl | rfl <;> assumption
theorem qb {M : PM} {op : Nat} {ns : List Int} (h1 : M.keys = []) (h2 : M.uw = false) (ho : 1 ≤ op ∧ op ≤ 11) : refL M (mkE op ns) true = askL M 0 (mkE op ns) :=
 jh rfl (fun h => by have h : op = 12 := h.1; omega) (by show decide (op = 13 ∨ op = 14 ∨ op = 15) = false; rw [decide_eq_false_iff_not]; omega) (by unfold usedK; rw [h1]; rfl) h2
theorem j6 {M : PM} {op : Nat} {ns : List Int} (h1 : M.keys = []) (h2 : M.uw = false) (ho : 3 ≤ op ∧ op ≤ 11) (hn : ∀ n ∈ ns, I64 n) (hl : ns.length ≤ ct.getD op 0) (h : askL M 0 (mkE op ns) = 0) : Good M (mkE op ns) :=
 ⟨gK (by omega) hn, ⟨by show 1 ≤ op; omega, by show op ≤ 11; omega⟩, dK (by omega) (by omega) hl, (qb h1 h2 ⟨by omega, by omega⟩).trans h, by show 0 ≤ 8; decide, fun k => by have k : op = 2 := k; omega⟩
theorem dt {M : PM} {id k l : Int} {a : PA} (h : acctO M id = some a) (ho : a.opn = true) (hk : a.kind = k) : namedK M l id k = l := by
 unfold namedK
 rw [h]
 simp [ho, hk, whn]
theorem oo {M : PM} {id n : Int} {a : PA} (h : acctO M id = some a) (ho : a.opn = true) (hk : a.kind = 1) (h1 : 1 ≤ n) (h2 : n ≤ 10000000000000) : askL M 0 (mkE 4 [id, n]) = whn 0 (roomO (some a) n) 4 := by
 show whn (namedK M (whn 0 (beyond n 10000000000000) 1) id 1) (roomO (acctO M id) n) 4 = _
 rw [dt h ho hk, h, beyond_0.2 ⟨h1, h2⟩]
 rfl
theorem tH {M : PM} {id n : Int} {a : PA} (h : acctO M id = some a) (ho : a.opn = true) (hk : a.kind = 1) (h1 : 1 ≤ n) (h2 : n ≤ 10000000000000) : askL M 0 (mkE 5 [id, n]) = whn 0 (fundsO M (some a) n) 13 := by
 show whn (namedK M (whn 0 (beyond n 10000000000000) 1) id 1) (fundsO M (acctO M id) n) 13 = _
 rw [dt h ho hk, h, beyond_0.2 ⟨h1, h2⟩]
 rfl
theorem pe {M : PM} {a : PA} {n : Int} (h : n ≤ spend M a) : fundsO M (some a) n = false := by unfold fundsO; rw [decide_eq_false_iff_not]; omega
theorem nf {M : PM} {a : PA} {n : Int} (h : spend M a < n) : fundsO M (some a) n = true := by unfold fundsO; rw [decide_eq_true_iff]; omega
theorem jk {a : PA} {n : Int} (h0 : -10000000000000 ≤ a.bal + n) (h : a.bal + n ≤ 10000000000000) : roomO (some a) n = false := by
 unfold roomO
 rw [decide_eq_false_iff_not, qM _ ⟨by omega, by omega⟩]
 omega
theorem S3.sp1 {M : PM} {l m : Int} {a1 a2 a3 : PA} {s : Int} (h : S3 M l m a1 a2 a3 s) (hp : a1.prod = 1) : spend M a1 = a1.bal + l - a1.held := by
 unfold spend
 rw [hp, h.v1]
theorem S3.chg1 {M : PM} {l m : Int} {a1 a2 a3 : PA} {s : Int} (h : S3 M l m a1 a2 a3 s) (f : PA → PA) : onA M.al 1 f = [f a1, a2, a3] := by
 unfold onA
 rw [h.al]
 simp [h.i1, h.i2, h.i3]
end Go.Proofs.YtjkiplndbcmmbaaGreatDoor