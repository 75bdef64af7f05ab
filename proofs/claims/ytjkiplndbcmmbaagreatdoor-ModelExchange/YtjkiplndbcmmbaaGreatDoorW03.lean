/- texts of the model: Gy Mfl -/
import Derived.Test.YtjkiplndbcmmbaaGreatDoorProg
import Derived.WalkKit
import Derived.Deep.RegionHeld3
set_option linter.unusedVariables false
set_option linter.unusedSimpArgs false
set_option maxHeartbeats 16000000
set_option maxRecDepth 100000
namespace Go.Proofs.YtjkiplndbcmmbaaGreatDoor
theorem rL {P : Program} {ops : Array Oper} {Q : Exit → Act → World → Prop} {md : Region.Mode} {S : World → Prop} (i d : Nat) (v : Value) {oi : Oper} {fuel : Nat} {listed : Array Bool} {a : Act} {w : World} (hi : ops[i]? = some oi) (hd : oi.dst = some d)
  (hs : Region.noSelect ops = true) (hf : Region.free md ops listed i = true) (hr : (Region.ready md ops listed).contains i = true)
  (hQ : ∀ c a w, Q (.panic c) (a.put (some d) v) w → Q (.panic c) a w) (hy : YieldsIf P ops S oi v a) (hS : S w)
  (h : wpAnyH P md ops Q S fuel (listed.setIfInBounds i true) (a.put (some d) v) w) : wpAnyH P md ops Q S (fuel + 1) listed a w := by
 rw [← hd] at h hQ
 exact wpAnyH_take hi hs hf hr hQ hy hS h
theorem tK {P : Program} {ops : Array Oper} {Q : Exit → Act → World → Prop} {md : Region.Mode} {S : World → Prop} (i d : Nat) (v : Value) {oi : Oper} {fuel : Nat} {listed : Array Bool} {a : Act} {w : World} (hi : ops[i]? = some oi) (hy : YieldsIf P ops S oi v a)
    (h : wpAnyH P md ops Q S fuel (listed.setIfInBounds i true) (a.put (some d) v) w) (hd : oi.dst = some d := by rfl) (hs : Region.noSelect ops = true := by kernel_rfl) (hf : Region.free md ops listed i = true := by kernel_rfl) (hr : (Region.ready md ops listed).contains i = true := by kernel_rfl)
    (hQ : ∀ c a w, Q (.panic c) (a.put (some d) v) w → Q (.panic c) a w := by exact fun _ _ _ h => h) (hS : S w := by assumption) : wpAnyH P md ops Q S (fuel + 1) listed a w := rL i d v hi hd hs hf hr hQ hy hS h
theorem tL {P : Program} {ops : Array Oper} {Q : Exit → Act → World → Prop} {md : Region.Mode} {S : World → Prop} (i d : Nat) (v : Value) {oi : Oper} {fuel : Nat} {listed : Array Bool} {a : Act} {w : World} (hy : ∀ w, S w → (execOp a.eval oi).run P w = .ok (.value v) w)
    (h : wpAnyH P md ops Q S fuel (listed.setIfInBounds i true) (a.put (some d) v) w) (hi : ops[i]? = some oi := by exact rfl) (hw : Region.wanted oi (yielded ops a.tmps) = true := by rfl) (hd : oi.dst = some d := by rfl) (hs : Region.noSelect ops = true := by kernel_rfl) (hf : Region.free md ops listed i = true := by kernel_rfl) (hr : (Region.ready md ops listed).contains i = true := by kernel_rfl)
    (hQ : ∀ c a w, Q (.panic c) (a.put (some d) v) w → Q (.panic c) a w := by exact fun _ _ _ h => h) (hS : S w := by assumption) : wpAnyH P md ops Q S (fuel + 1) listed a w := rL i d v hi hd hs hf hr hQ (Or.inl ⟨hw, hy⟩) hS h
theorem tM {P : Program} {ops : Array Oper} {Q : Exit → Act → World → Prop} {md : Region.Mode} {S : World → Prop} (i d : Nat) (v : Value) {oi : Oper} {fuel : Nat} {listed : Array Bool} {a : Act} {w : World}
    (h : wpAnyH P md ops Q S fuel (listed.setIfInBounds i true) (a.put (some d) v) w) (hi : ops[i]? = some oi := by exact rfl) (hw : Region.wanted oi (yielded ops a.tmps) = false := by rfl) (hv : v = undef := by rfl) (hd : oi.dst = some d := by rfl) (hs : Region.noSelect ops = true := by kernel_rfl) (hf : Region.free md ops listed i = true := by kernel_rfl) (hr : (Region.ready md ops listed).contains i = true := by kernel_rfl)
    (hQ : ∀ c a w, Q (.panic c) (a.put (some d) v) w → Q (.panic c) a w := by exact fun _ _ _ h => h) (hS : S w := by assumption) : wpAnyH P md ops Q S (fuel + 1) listed a w := rL i d v hi hd hs hf hr hQ (Or.inr ⟨hw, hv⟩) hS h
theorem dN {P : Program} {ops : Array Oper} {Q : Exit → Act → World → Prop} {md : Region.Mode} {S : World → Prop} {fuel : Nat} {listed : Array Bool} {a : Act} {w : World} (h : Q .normal a w) (hr : Region.ready md ops listed = [] := by kernel_rfl) : wpAnyH P md ops (NoPanic Q) S fuel listed a w := wpAnyH_done hr (NoPanic.normal h) fuel
theorem rdy {P : Program} {ops : Array Oper} {Q : Exit → Act → World → Prop} {md : Region.Mode} {S : World → Prop} (i : Nat) {o : Oper} {fuel : Nat} {listed : Array Bool} {a : Act} {w : World}
    (h : ∀ K' : Act → World → Prop, Shut (∀ a w, S w → (S w → wpAnyH P md ops Q S fuel (listed.setIfInBounds i true) a w) → K' a w) → if Region.wanted o (yielded ops a.tmps) = true then Oper.wp P o a w K' Q else K' (a.put o.dst undef) w)
    (hr : Region.ready md ops listed = [i] := by kernel_rfl) (ho : ops[i]? = some o := by exact rfl) : wpAnyH P md ops Q S (fuel + 1) listed a w := wpAnyH_ready hr (by simp) (AllReadyH.cons ho h AllReadyH.nil)
theorem nrm : (∀ (a : Act) (d : Option Nat) (v : Value), a.put d v = match d with | some d => { a with tmps := a.tmps.setIfInBounds d v } | none => a) ∧ (∀ (l : List Value) (i : Nat) (a : Value), l.toArray.setIfInBounds i a = (l.set i a).toArray) ∧ (∀ (x : Value) (l : List Value) (a : Value), (x :: l).set 0 a = a :: l) ∧ (∀ (x : Value) (l : List Value) (i : Nat) (a : Value), (x :: l).set (i + 1) a = x :: l.set i a) := ⟨fun _ d _ => by cases d <;> rfl, fun l i a => by simp, fun _ _ _ => rfl, fun _ _ _ _ => rfl⟩
theorem iY {L : Array Bool} {i : Nat} (h : L.getD i true = false) : ∃ hl : i < L.size, L[i] = false := by
 by_cases hl : i < L.size
 ·refine ⟨hl, ?_⟩
  simpa [Array.getD, hl] using h
 ·simp [Array.getD, hl] at h
theorem flt {P : Program} {ops : Array Oper} {Q : Exit → Act → World → Prop} {md : Region.Mode} (J : Array Bool → Act → World → Prop)
  (hs : ∀ L a w, J L a w → ∀ i ∈ Region.ready md ops L, wpOp P ops Q i (fun a' w' => J (L.setIfInBounds i true) a' w') a w)
  (he : ∀ L a w, J L a w → Region.ready md ops L = [] → Q .normal a w) :
  ∀ (fuel : Nat) (L : Array Bool) (a : Act) (w : World), L.toList.count false ≤ fuel → J L a w → wpAny P md ops Q fuel L a w
 | 0, L, a, w, hc, hJ => by
  have hr : Region.ready md ops L = [] := by
   rw [List.eq_nil_iff_forall_not_mem]
   intro i hi
   obtain ⟨hl, hv⟩ := iY (mem_ready.1 hi).1
   have h3 : false ∈ L.toList := by rw [← hv]; exact Array.mem_toList_iff.2 (Array.getElem_mem hl)
   have := List.count_pos_iff.2 h3
   omega
  exact ⟨hr, he L a w hJ hr⟩
 | fuel + 1, L, a, w, hc, hJ => by
  refine ⟨fun hr => he L a w hJ hr, fun i hi => wpOp_mono (fun a' w' hJ' => flt J hs he fuel _ a' w' ?_ hJ') (hs L a w hJ i hi)⟩
  obtain ⟨hl, hv⟩ := iY (mem_ready.1 hi).1
  have h3 : false ∈ L.toList := by rw [← hv]; exact Array.mem_toList_iff.2 (Array.getElem_mem hl)
  have h4 := List.count_pos_iff.2 h3
  have h5 : L.toList[i]'(by rw [Array.length_toList]; exact hl) = false := by rw [← hv]; rfl
  rw [Array.toList_setIfInBounds, List.count_set (by rw [Array.length_toList]; exact hl), h5]
  have h6 : (if (false == false) = true then 1 else 0) = 1 := rfl
  have h7 : (if (true == false) = true then 1 else 0) = 0 := rfl
  rw [h6, h7]
  omega
def puts (a : Act) : List (Option Nat) → Nat → (Nat → Value) → Act
 | [], _, _ => a
 | none :: r, k, s => puts a r (k + 1) s
 | some d :: r, k, s => puts (a.put (some d) (s k)) r (k + 1) s
def at1 (s : Nat → Value) (i : Nat) (v : Value) : Nat → Value := fun j => if j = i then v else s j
theorem put_comm (a : Act) {d e : Nat} (h : d ≠ e) (v u : Value) : (a.put (some d) v).put (some e) u = (a.put (some e) u).put (some d) v := by
 unfold Act.put
 simp only
 rw [Array.setIfInBounds_comm _ _ h]
theorem ub (a : Act) (d : Nat) (v u : Value) : (a.put (some d) v).put (some d) u = a.put (some d) u := by
 unfold Act.put
 simp
theorem ik : ∀ (D : List (Option Nat)) (a : Act) (k : Nat) (s : Nat → Value) (d : Nat) (v : Value), some d ∉ D → (puts a D k s).put (some d) v = puts (a.put (some d) v) D k s
 | [], a, k, s, d, v, h => rfl
 | none :: r, a, k, s, d, v, h => ik r a (k + 1) s d v (fun m => h (List.mem_cons_of_mem _ m))
 | some e :: r, a, k, s, d, v, h => by
  have hne : d ≠ e := fun x => h (x ▸ List.mem_cons_self ..)
  show (puts (a.put (some e) (s k)) r (k + 1) s).put (some d) v = puts ((a.put (some d) v).put (some e) (s k)) r (k + 1) s
  rw [ik r _ (k + 1) s d v (fun m => h (List.mem_cons_of_mem _ m)), put_comm a hne v (s k)]
theorem fD : ∀ (D : List (Option Nat)) (a : Act) (k i : Nat) (s : Nat → Value) (v : Value), i < k → puts a D k (at1 s i v) = puts a D k s
 | [], a, k, i, s, v, h => rfl
 | none :: r, a, k, i, s, v, h => fD r a (k + 1) i s v (by omega)
 | some e :: r, a, k, i, s, v, h => by
  show puts (a.put (some e) (at1 s i v k)) r (k + 1) (at1 s i v) = puts (a.put (some e) (s k)) r (k + 1) s
  rw [show at1 s i v k = s k from if_neg (by omega), fD r _ (k + 1) i s v (by omega)]
theorem gy : ∀ (D : List (Option Nat)) (a : Act) (k i : Nat) (s : Nat → Value) (d : Nat) (v : Value), (D.filterMap (fun x => x)).Nodup → D[i]? = some (some d) → (puts a D k s).put (some d) v = puts a D k (at1 s (k + i) v)
 | [], a, k, i, s, d, v, hn, h => by simp at h
 | none :: r, a, k, 0, s, d, v, hn, h => by simp at h
 | none :: r, a, k, i + 1, s, d, v, hn, h => by
  show (puts a r (k + 1) s).put (some d) v = puts a r (k + 1) _
  rw [gy r a (k + 1) i s d v (by simpa using hn) (by simpa using h), show k + 1 + i = k + (i + 1) by omega]
 | some e :: r, a, k, 0, s, d, v, hn, h => by
  simp at h
  subst h
  have hn' : e ∉ r.filterMap (fun x => x) ∧ (r.filterMap (fun x => x)).Nodup := by simpa using hn
  show (puts (a.put (some e) (s k)) r (k + 1) s).put (some e) v = puts (a.put (some e) (at1 s (k + 0) v k)) r (k + 1) (at1 s (k + 0) v)
  rw [ik r _ (k + 1) s e v (fun m => hn'.1 (List.mem_filterMap.2 ⟨_, m, rfl⟩)), ub, fD r _ (k + 1) (k + 0) s v (by omega), show at1 s (k + 0) v k = v from if_pos (by omega)]
 | some e :: r, a, k, i + 1, s, d, v, hn, h => by
  have hn' : e ∉ r.filterMap (fun x => x) ∧ (r.filterMap (fun x => x)).Nodup := by simpa using hn
  show (puts (a.put (some e) (s k)) r (k + 1) s).put (some d) v = puts (a.put (some e) (at1 s (k + (i + 1)) v k)) r (k + 1) (at1 s (k + (i + 1)) v)
  rw [gy r _ (k + 1) i s d v hn'.2 (by simpa using h), show at1 s (k + (i + 1)) v k = s k from if_neg (by omega), show k + 1 + i = k + (i + 1) by omega]
theorem oR (D : List (Option Nat)) (a : Act) (s : Nat → Value) (i : Nat) (v : Value) (h : D[i]? = some none) : puts a D 0 s = puts a D 0 (at1 s i v) := by
 have aux : ∀ (D : List (Option Nat)) (a : Act) (k i : Nat), D[i]? = some none → puts a D k (at1 s (k + i) v) = puts a D k s := by
  intro D
  induction D with
  | nil => intro a k i h; simp at h
  | cons x r ih =>
   intro a k i h
   cases i with
   | zero =>
    simp at h
    subst h
    exact fD r a (k + 1) (k + 0) s v (by omega)
   | succ i =>
    have h' : r[i]? = some none := by simpa using h
    cases x with
    | none =>
     show puts a r (k + 1) _ = puts a r (k + 1) s
     rw [show k + (i + 1) = k + 1 + i by omega]
     exact ih a (k + 1) i h'
    | some e =>
     show puts (a.put (some e) (at1 s (k + (i + 1)) v k)) r (k + 1) _ = puts (a.put (some e) (s k)) r (k + 1) s
     rw [show at1 s (k + (i + 1)) v k = s k from if_neg (by omega), show k + (i + 1) = k + 1 + i by omega]
     exact ih _ (k + 1) i h'
 have := aux D a 0 i h
 rw [Nat.zero_add] at this
 exact this.symm
def now (a : Act) (D : List (Option Nat)) : Nat → Value := fun i => match D[i]? with | some (some d) => a.tmps.getD d undef | _ => undef
theorem u7 (a : Act) (d : Nat) : a.put (some d) (a.tmps.getD d undef) = a := by
 unfold Act.put
 simp only
 have : a.tmps.setIfInBounds d (a.tmps.getD d undef) = a.tmps := by
  refine Array.ext (by simp) (fun i h1 h2 => ?_)
  rw [Array.getElem_setIfInBounds]
  split
  ·rename_i e
   subst e
   simp [Array.getD, h2]
  ·rfl
 rw [this]
theorem r6 (a : Act) (D : List (Option Nat)) : puts a D 0 (now a D) = a := by
 have aux : ∀ (D : List (Option Nat)) (k : Nat) (s : Nat → Value), (∀ i d, D[i]? = some (some d) → s (k + i) = a.tmps.getD d undef) → puts a D k s = a := by
  intro D
  induction D with
  | nil => intro k s h; rfl
  | cons x r ih =>
   intro k s h
   have hr : ∀ i d, r[i]? = some (some d) → s (k + 1 + i) = a.tmps.getD d undef := fun i d hi => by
    have := h (i + 1) d (by simpa using hi)
    rw [show k + 1 + i = k + (i + 1) by omega]
    exact this
   cases x with
   | none => exact ih (k + 1) s hr
   | some e =>
    show puts (a.put (some e) (s k)) r (k + 1) s = a
    have h0 : s k = a.tmps.getD e undef := h 0 e rfl
    rw [h0, u7]
    exact ih (k + 1) s hr
 refine aux D 0 _ (fun i d hi => ?_)
 unfold now
 rw [Nat.zero_add, hi]
theorem qZ (a : Act) (d : Nat) (v : Value) : (a.put (some d) v).tmps.size = a.tmps.size := by
 unfold Act.put
 simp
theorem fU : ∀ (D : List (Option Nat)) (a : Act) (k : Nat) (s : Nat → Value), (puts a D k s).tmps.size = a.tmps.size
 | [], a, k, s => rfl
 | none :: r, a, k, s => fU r a (k + 1) s
 | some e :: r, a, k, s => (fU r _ (k + 1) s).trans (qZ a e _)
theorem qY (a : Act) {d : Nat} (v : Value) (h : d < a.tmps.size) : (a.put (some d) v).eval (.tmp d) = v := by
 unfold Act.eval Act.put
 simp [h]
theorem pr (s : Nat → Value) (i : Nat) : at1 s i (s i) = s := by
 funext j
 unfold at1
 split
 ·rename_i h; rw [h]
 ·rfl
theorem ud {D : List (Option Nat)} {a : Act} {s : Nat → Value} (hn : (D.filterMap (fun x => x)).Nodup) (i d : Nat) (h : D[i]? = some (some d)) (hs : d < a.tmps.size) : (puts a D 0 s).eval (.tmp d) = s i := by
 have h1 := gy D a 0 i s d (s i) hn h
 rw [Nat.zero_add, pr] at h1
 rw [← h1]
 exact qY _ _ (by rw [fU]; exact hs)
theorem ij {d : Nat} : ∀ (D : List (Option Nat)) (a : Act) (k : Nat) (s : Nat → Value), some d ∉ D → (puts a D k s).eval (.tmp d) = a.eval (.tmp d)
 | [], a, k, s, h => rfl
 | none :: r, a, k, s, h => ij r a (k + 1) s (fun m => h (List.mem_cons_of_mem _ m))
 | some e :: r, a, k, s, h => by
  have hne : e ≠ d := fun x => h (x ▸ List.mem_cons_self ..)
  refine (ij r (a.put (some e) (s k)) (k + 1) s (fun m => h (List.mem_cons_of_mem _ m))).trans (Act.eval_put (fun x hx => ?_))
  cases hx
  intro y
  cases y
  exact hne rfl
theorem lI {ops : Array Oper} {md : Region.Mode} {L : Array Bool} (hz : L.size = ops.size) (hb : (ops.toList.zipIdx.all fun x => x.1.after.all fun e => decide (e.on < x.2)) = true) (hr : Region.ready md ops L = []) : ∀ i, i < ops.size → L.getD i false = true := by
 intro i
 induction i using Nat.strongRecOn with
 | _ i ih =>
  intro hi
  cases hc : L.getD i false with
  | true => rfl
  | false =>
   exfalso
   have hm : i ∈ Region.ready md ops L := by
    refine mem_ready.2 ⟨?_, ops[i], Array.getElem?_eq_getElem hi, fun e he _ => ?_⟩
    ·have hl : i < L.size := by omega
     simpa [Array.getD, hl] using hc
    ·have h1 := List.all_eq_true.1 hb (ops[i], i) (by rw [List.mem_iff_getElem]; exact ⟨i, by simpa using hi, by simp⟩)
     have h2 : e.on < i := by
      have := Array.all_eq_true'.1 h1 e he
      simpa using this
     exact ih e.on h2 (by omega)
   rw [hr] at hm
   cases hm
theorem xI {P : Program} {ops : Array Oper} {Q : Exit → Act → World → Prop} {id : Nat} {a : Act} {w : World} (D : List (Option Nat)) (B : World → Prop) (Pr : Nat → World → Value → Prop)
  (hm : P.follows .mixedOrders = true) (hD : ops.toList.map (·.dst) = D) (hn : (D.filterMap (fun x => x)).Nodup) (hb : (ops.toList.zipIdx.all fun x => x.1.after.all fun e => decide (e.on < x.2)) = true) (h0 : B { w with drawn := w.drawn + 1 })
  (hop : ∀ (i : Nat) (o : Oper), ops[i]? = some o → ∀ (s : Nat → Value) (w : World), B w → (∀ j, (o.after.any fun e => Region.binds .any e && e.on == j) = true → Pr j w (s j)) →
   ∀ K : Act → World → Prop, (∀ v w' x, x = (puts a D 0 s).put o.dst v → B w' → (∀ j v, Pr j w v → Pr j w' v) → Pr i w' v → K x w') →
    if Region.wanted o (yielded ops (puts a D 0 s).tmps) = true then Oper.wp P o (puts a D 0 s) w K Q else K ((puts a D 0 s).put o.dst undef) w)
  (hend : ∀ (s : Nat → Value) (w : World), B w → (∀ i, i < ops.size → Pr i w (s i)) → Q .normal (puts a D 0 s) w) :
  (Code.region id ops true).wp P Q a w := by
 refine wp_region_any hm (flt (fun L a' w' => L.size = ops.size ∧ ∃ s, a' = puts a D 0 s ∧ B w' ∧ ∀ i, L.getD i false = true → Pr i w' (s i)) ?_ ?_ ops.size _ a _ ?_ ?_)
 ·rintro L a' w' ⟨hz, s, rfl, hB, hL⟩ i hi
  obtain ⟨hu, o, ho, hall⟩ := mem_ready.1 hi
  have h := hop i o ho s w' hB (fun j hj => by
   obtain ⟨k, hk, h2⟩ := Array.any_eq_true.1 hj
   simp only [Bool.and_eq_true, beq_iff_eq] at h2
   rw [← h2.2]
   exact hL _ (hall _ (Array.getElem_mem hk) h2.1)) (fun a' w'' => (L.setIfInBounds i true).size = ops.size ∧ ∃ s, a' = puts a D 0 s ∧ B w'' ∧ ∀ j, (L.setIfInBounds i true).getD j false = true → Pr j w'' (s j)) ?_
  ·unfold wpOp
   rw [ho]
   show if Region.wanted o (yielded ops (puts a D 0 s).tmps) = true then _ else _
   split
   ·rename_i hw
    rw [if_pos hw] at h
    exact Or.inl h
   ·rename_i hw
    rw [if_neg hw] at h
    exact h
  ·rintro v w'' x rfl hB' hk hv
   refine ⟨by rw [Array.size_setIfInBounds]; exact hz, at1 s i v, ?_, hB', fun j hj => ?_⟩
   ·have hDi : D[i]? = some o.dst := by rw [← hD, List.getElem?_map, Array.getElem?_toList, ho]; rfl
    cases hd : o.dst with
    | none =>
     rw [hd] at hDi
     exact oR D a s i v hDi
    | some d =>
     rw [hd] at hDi
     have := gy D a 0 i s d v hn hDi
     rw [Nat.zero_add] at this
     exact this
   ·unfold at1
    by_cases e : j = i
    ·subst e
     rw [if_pos rfl]
     exact hv
    ·rw [if_neg e]
     refine hk _ _ (hL j ?_)
     rw [Array.getD_eq_getD_getElem?, Array.getElem?_setIfInBounds_ne (fun x => e x.symm)] at hj
     rw [Array.getD_eq_getD_getElem?]
     exact hj
 ·rintro L a' w' ⟨hz, s, rfl, hB, hL⟩ hr
  exact hend s w' hB (fun i hi => hL i (lI hz hb hr i hi))
 ·rw [Array.toList_replicate]
  simp
 ·refine ⟨Array.size_replicate, now a D, (r6 a D).symm, h0, fun i hi => ?_⟩
  exfalso
  rw [Array.getD_eq_getD_getElem?, Array.getElem?_replicate] at hi
  split at hi <;> simp at hi
theorem vH {P : Program} {ops : Array Oper} {Q : Exit → Act → World → Prop} {id : Nat} {a : Act} {w : World} (D : List (Option Nat)) (B : World → Prop) (Pr : Nat → World → Value → Prop)
  (hm : P.follows .mixedOrders = true) (hD : ops.toList.map (·.dst) = D) (hn : (D.filterMap (fun x => x)).Nodup) (hb : (ops.toList.zipIdx.all fun x => x.1.after.all fun e => decide (e.on < x.2)) = true) (hg : (ops.toList.all fun o => o.guard.isNone) = true) (h0 : B { w with drawn := w.drawn + 1 })
  (hop : ∀ (i : Nat) (o : Oper), ops[i]? = some o → ∀ (s : Nat → Value) (w : World), B w → (∀ j, (o.after.any fun e => Region.binds .any e && e.on == j) = true → Pr j w (s j)) →
   ∀ K : Act → World → Prop, (∀ v w' x, x = (puts a D 0 s).put o.dst v → B w' → (∀ j v, Pr j w v → Pr j w' v) → Pr i w' v → K x w') → Oper.wp P o (puts a D 0 s) w K Q)
  (hend : ∀ (s : Nat → Value) (w : World), B w → (∀ i, i < ops.size → Pr i w (s i)) → Q .normal (puts a D 0 s) w) :
  (Code.region id ops true).wp P Q a w := by
 refine xI D B Pr hm hD hn hb h0 (fun i o ho s w hB hd K hK => ?_) hend
 have h1 := List.all_eq_true.1 hg o (Array.mem_toList_iff.2 (Array.mem_of_getElem? ho))
 have h2 : o.guard = none := Option.isNone_iff_eq_none.1 h1
 have h3 : Region.wanted o (yielded ops (puts a D 0 s).tmps) = true := by
  unfold Region.wanted
  rw [h2]
 rw [if_pos h3]
 exact hop i o ho s w hB hd K hK
end Go.Proofs.YtjkiplndbcmmbaaGreatDoor