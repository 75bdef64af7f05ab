/- log XVII: the laws' same. -/
import Derived.Test.YtkmdegmpffgplaaGreatDoorLbp
import Derived.Test.YtkmdegmpffgplaaGreatDoorLau
namespace Go.Proofs.YtkmdegmpffgplaaGreatDoor
open Go.RowKit Go.Maps Go.Sort Go.Shelf pk
set_option linter.unusedVariables false
set_option linter.unusedSimpArgs false
/-- a slice of rows of bytes -/
def Rws (w : World) (v : Value) (ts : List TB) : Prop := Sl KT w v ts ∧ ∀ t ∈ ts, Bs w (.slice t.a t.bs.length t.c) t.bs
theorem Rws.step {w w' : World} {v : Value} {ts : List TB} (h : Rws w v ts) (k : Below w.heap.size w w') : Rws w' v ts := ⟨h.1.step k, fun t ht => (h.2 t ht).step k⟩
set_option maxRecDepth 100000 in
set_option maxHeartbeats 2000000 in
theorem sameL_ok (w : World) (v u : Value) (ts us : List TB) (hv : Rws w v ts) (hu : Rws w u us) (he : ts.map (·.bs) = us.map (·.bs)) :
    Calls Tryz.prog 19 #[v, u] w fun e w' => e = .returned (.bool true) ∧ Below w.heap.size w w' := by
  have HV : Hid (Rws w v ts) := hv
  have HU : Hid (Rws w u us) := hu
  have HE : Hid (ts.map (·.bs) = us.map (·.bs)) := he
  have hlen : us.length = ts.length := by have := congrArg List.length he; simpa using this.symm
  obtain ⟨va, vc, e1, g1, g2, _⟩ := hv.1.form
  obtain ⟨ua, uc, e2, g3, g4, _⟩ := hu.1.form
  obtain ⟨N, hN⟩ : ∃ N, N = ts.length := ⟨_, rfl⟩
  rw [hlen] at e2 g3
  rw [← hN] at e1 e2 g1 g3
  have HN : Hid (N = ts.length ∧ N = us.length) := ⟨hN, by omega⟩
  subst e1
  subst e2
  clear hv hu he hlen hN
  go_enter Tryz.func19, Tryz.ntmps19
  go_wp2_with fail
  go_loopw [13] (fun i wr => ∃ k : Nat, k ≤ N ∧ i = .int .i64 (k : Int) ∧ Hid (Below w.heap.size w wr)) (fun i _ => N - (intOf i).toNat)
  case atStart => exact ⟨0, Nat.zero_le _, rfl, Below.refl _ _⟩
  case round =>
    obtain ⟨k, hk, rfl, HB⟩ := hrel
    by_cases hlt : k < N
    · obtain ⟨ta, hta⟩ : ∃ t, ts[k]? = some t := ⟨_, List.getElem?_eq_getElem (by have := HN.out; omega)⟩
      obtain ⟨tb, htb⟩ : ∃ t, us[k]? = some t := ⟨_, List.getElem?_eq_getElem (by have := HN.out; omega)⟩
      obtain ⟨ab, ao, rfl, hab, hca⟩ := (HV.out.step HB.out).1.at k ta hta
      obtain ⟨bb, bo, rfl, hbb, hcb⟩ := (HU.out.step HB.out).1.at k tb htb
      have HCA : Hid (wr.cell? ⟨ab, ao + k, none⟩ = some (.slice ta.a ta.bs.length ta.c) ∧ ab < wr.heap.size) := ⟨by have := hca 0 _ rfl; rw [show k * KT.k = k from Nat.mul_one k, Nat.add_zero] at this; exact this, hab⟩
      have HCB : Hid (wr.cell? ⟨bb, bo + k, none⟩ = some (.slice tb.a tb.bs.length tb.c) ∧ bb < wr.heap.size) := ⟨by have := hcb 0 _ rfl; rw [show k * KT.k = k from Nat.mul_one k, Nat.add_zero] at this; exact this, hbb⟩
      have HTA : Hid (∀ w', Below w.heap.size w w' → Bs w' (.slice ta.a ta.bs.length ta.c) ta.bs) := fun w' kk => ((HV.out.step kk).2 ta (List.mem_of_getElem? hta))
      have HTB : Hid (∀ w', Below w.heap.size w w' → Bs w' (.slice tb.a tb.bs.length tb.c) tb.bs) := fun w' kk => ((HU.out.step kk).2 tb (List.mem_of_getElem? htb))
      have HEQ : Hid (ta.bs = tb.bs) := (show ta.bs = tb.bs by
        have h1 := congrArg (fun l => l[k]?) HE.out
        simp only [List.getElem?_map, hta, htb, Option.map_some, Option.some.injEq] at h1
        exact h1)
      have dk : (k : Int) < (N : Int) := by omega
      clear hta htb hca hcb hab hbb
      go_upto_region 6 with fail
      refine wp_region_noPanic ?_
      refine wp_region_held_drew (S := fun V => V.cell? ⟨ab, ao + k, none⟩ = some (.slice ta.a ta.bs.length ta.c) ∧ V.cell? ⟨bb, bo + k, none⟩ = some (.slice tb.a tb.bs.length tb.c)) (by kernel_rfl) ⟨HCA.out.1, HCB.out.1⟩ ?_
      intro hHeld
      have HD : Hid (Below w.heap.size w wr.drew) := HB.out.drew
      have HDr : Hid (wr.heap.size ≤ wr.drew.heap.size) := Nat.le_refl _
      generalize wr.drew = w1 at *
      refine takeD 0 16 (.slice (some ⟨ab, ao, none⟩) N vc) (by exact rfl) rfl (by kernel_rfl) (by kernel_rfl) (by kernel_rfl) (fun _ _ _ h => h) (Or.inl ⟨by rfl, ?_⟩) (by assumption) ?_
      · intro wq hS
        go_simp
      try simp only [Act.put, List.setIfInBounds_toArray, List.set_cons_zero, List.set_cons_succ]
      refine takeD 1 17 (.int .i64 (k : Int)) (by exact rfl) rfl (by kernel_rfl) (by kernel_rfl) (by kernel_rfl) (fun _ _ _ h => h) (Or.inl ⟨by rfl, ?_⟩) (by assumption) ?_
      · intro wq hS
        go_simp
      try simp only [Act.put, List.setIfInBounds_toArray, List.set_cons_zero, List.set_cons_succ]
      refine takeD 2 18 (.pointer (some ⟨ab, ao + k, none⟩)) (by exact rfl) rfl (by kernel_rfl) (by kernel_rfl) (by kernel_rfl) (fun _ _ _ h => h) (Or.inl ⟨by rfl, ?_⟩) (by assumption) ?_
      · intro wq hS
        go_simp
      try simp only [Act.put, List.setIfInBounds_toArray, List.set_cons_zero, List.set_cons_succ]
      refine takeD 3 19 (.slice ta.a ta.bs.length ta.c) (by exact rfl) rfl (by kernel_rfl) (by kernel_rfl) (by kernel_rfl) (fun _ _ _ h => h) (Or.inl ⟨by rfl, ?_⟩) (by assumption) ?_
      · intro wq hS
        have c := hS.1
        go_simp
      try simp only [Act.put, List.setIfInBounds_toArray, List.set_cons_zero, List.set_cons_succ]
      refine takeD 4 20 (.slice (some ⟨bb, bo, none⟩) N uc) (by exact rfl) rfl (by kernel_rfl) (by kernel_rfl) (by kernel_rfl) (fun _ _ _ h => h) (Or.inl ⟨by rfl, ?_⟩) (by assumption) ?_
      · intro wq hS
        go_simp
      try simp only [Act.put, List.setIfInBounds_toArray, List.set_cons_zero, List.set_cons_succ]
      refine takeD 5 21 (.int .i64 (k : Int)) (by exact rfl) rfl (by kernel_rfl) (by kernel_rfl) (by kernel_rfl) (fun _ _ _ h => h) (Or.inl ⟨by rfl, ?_⟩) (by assumption) ?_
      · intro wq hS
        go_simp
      try simp only [Act.put, List.setIfInBounds_toArray, List.set_cons_zero, List.set_cons_succ]
      refine takeD 6 22 (.pointer (some ⟨bb, bo + k, none⟩)) (by exact rfl) rfl (by kernel_rfl) (by kernel_rfl) (by kernel_rfl) (fun _ _ _ h => h) (Or.inl ⟨by rfl, ?_⟩) (by assumption) ?_
      · intro wq hS
        go_simp
      try simp only [Act.put, List.setIfInBounds_toArray, List.set_cons_zero, List.set_cons_succ]
      refine takeD 7 23 (.slice tb.a tb.bs.length tb.c) (by exact rfl) rfl (by kernel_rfl) (by kernel_rfl) (by kernel_rfl) (fun _ _ _ h => h) (Or.inl ⟨by rfl, ?_⟩) (by assumption) ?_
      · intro wq hS
        have c := hS.2
        go_simp
      try simp only [Act.put, List.setIfInBounds_toArray, List.set_cons_zero, List.set_cons_succ]
      refine wpAnyH_ready (rs := [8]) (by kernel_rfl) (by simp) ?_
      refine AllReadyH.cons (by exact rfl) (fun K hK => ?_) AllReadyH.nil
      go_simp
      refine (same_ok _ _ _ _ w1 (HTA.out w1 HD.out) (HTB.out w1 HD.out)).mono ?_
      rintro e w2 ⟨rfl, b2⟩
      rw [decide_eq_true HEQ.out]
      have HD2 : Hid (Below w.heap.size w w2) := HD.out.trans (b2.mono HD.out.size)
      have HC2 : Hid (w2.cell? ⟨ab, ao + k, none⟩ = some (.slice ta.a ta.bs.length ta.c) ∧ w2.cell? ⟨bb, bo + k, none⟩ = some (.slice tb.a tb.bs.length tb.c)) := ⟨(b2.cell (p := ⟨ab, ao + k, none⟩) (by have := HDr.out; have := HCA.out.2; show ab < _; omega)).trans hHeld.1, (b2.cell (p := ⟨bb, bo + k, none⟩) (by have := HDr.out; have := HCB.out.2; show bb < _; omega)).trans hHeld.2⟩
      go_wp2_with fail
      refine hK.out _ _ HC2.out (fun hHeld2 => ?_)
      clear hK K b2
      try simp only [Act.put, List.setIfInBounds_toArray, List.set_cons_zero, List.set_cons_succ]
      refine takeD 9 25 (.bool false) (by exact rfl) rfl (by kernel_rfl) (by kernel_rfl) (by kernel_rfl) (fun _ _ _ h => h) (Or.inl ⟨by rfl, ?_⟩) (by assumption) ?_
      · intro wq hS
        go_simp
      try simp only [Act.put, List.setIfInBounds_toArray, List.set_cons_zero, List.set_cons_succ]
      refine wpAnyH_done (by kernel_rfl) ?_ _
      refine NoPanic.normal ?_
      clear hHeld hHeld2
      go_wp2_with fail
      go_roundw
      case rel => exact ⟨k + 1, by omega, by simp, HD2.out⟩
      case measure => simp [intOf]; omega
    · obtain rfl : k = N := by omega
      go_wp2_with fail
      go_ret
      exact ⟨rfl, HB.out⟩
end Go.Proofs.YtkmdegmpffgplaaGreatDoor
/- log XVIII: payloads behind payloads. -/
namespace Go.Proofs.YtkmdegmpffgplaaGreatDoor
open Go.RowKit Go.Maps Go.Sort Go.Shelf pk
set_option linter.unusedVariables false
set_option linter.unusedSimpArgs false
theorem own_no {w : World} {B : Nat} {v : Value} {ts : List TB} (h : Own KT w B v ts) : ∀ n c, v = .slice none n c → c = 0 := fun n c e => by
  rcases h.own.2 with ⟨e2, _⟩ | ⟨q, cap, cur, e2, _⟩
  · rw [e2] at e; cases e; rfl
  · rw [e2] at e; cases e
theorem Pay.rws {w : World} {B : Nat} {v : Value} {ps : List (List Nat)} (h : Pay w B v ps) : ∃ ts, ts.map (·.bs) = ps ∧ Rws w v ts := by
  obtain ⟨ts, h1, h2, h3⟩ := h.ex
  exact ⟨ts, h1, h2.sl, fun t ht => (h3 t ht).1⟩
/-- append(payloads, more...) -/
theorem appPay {w : World} {ops : Array Oper} {rest : List Oper} {o : Oper} {a : Act} {Q : Exit → Act → World → Prop} (hgd : Region.wanted o (yielded ops a.tmps) = true) (s x : Operand)
    (ho : o.op = .call { callee := .builtin .append, args := #[s, x], argTypes := #[30, 30] })
    (B B2 : Nat) (ps qs : List (List Nat)) (v u : Value) (hs : a.eval s = v) (hx : a.eval x = u)
    (hp : Pay w B v ps) (hq : Pay w B2 u qs) (hB : B ≤ w.heap.size) (hl : ps.length + qs.length ≤ 1000000)
    (h : ∀ v' w', Pay w' B v' (ps ++ qs) → Below B w w' → (∃ ts, Own KT w B v ts ∧ w.grownBy w' v.ownBlock) → wpList Tryz.prog ops Q rest (a.put o.dst v') w') :
    wpList Tryz.prog ops Q (o :: rest) a w := by
  obtain ⟨ts, h1, h2, h3⟩ := hp.ex
  obtain ⟨us, g1, g2, g3⟩ := hq.ex
  have l1 : ts.length = ps.length := by have := congrArg List.length h1; simpa using this
  have l2 : us.length = qs.length := by have := congrArg List.length g1; simpa using this
  refine appSw (K := KT) hgd s x ho B ts us v u hs hx h2 g2.sl (own_no g2) hB (by show (ts.length + us.length) * 24 ≤ _; omega) (by omega) (fun v' w' o' b' gr => h v' w' ?_ b' ⟨ts, h2, gr⟩)
  refine ⟨ts ++ us, by rw [List.map_append, h1, g1], o', fun t ht => ?_⟩
  rcases List.mem_append.1 ht with ht | ht
  · exact ⟨bs_grown (h3 t ht).1 (h3 t ht).2 h2 gr, (h3 t ht).2.grown h2 gr⟩
  · exact ⟨bs_grown (g3 t ht).1 (g3 t ht).2 h2 gr, (g3 t ht).2.grown h2 gr⟩
end Go.Proofs.YtkmdegmpffgplaaGreatDoor
