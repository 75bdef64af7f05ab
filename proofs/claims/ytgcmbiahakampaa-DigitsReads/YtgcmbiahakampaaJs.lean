/- digits: fronts of texts, read. -/
import Derived.Test.YtgcmbiahakampaaJr
namespace Go.Proofs.Ytgcmbiahakampaa
open Go.RowKit
set_option linter.unusedVariables false
set_option linter.unusedSimpArgs false

theorem nv_pow (u : ByteArray) (i M N e : Nat) : ∀ n, n ≤ e → (∀ k, k < n → dgt u (i + k) = N / 10 ^ (e - 1 - k) % 10) → nv u i M n = M * 10 ^ n + N / 10 ^ (e - n) % 10 ^ n
  | 0, _, _ => by simp [nv, Nat.mod_one]
  | n + 1, h, hd => by
    have ih := nv_pow u i M N e n (by omega) (fun k hk => hd k (by omega))
    have hx := hd n (by omega)
    rw [nv, ih, hx]
    have e1 : N / 10 ^ (e - n) = N / 10 ^ (e - (n + 1)) / 10 := by
      rw [Nat.div_div_eq_div_mul, ← Nat.pow_succ]
      congr 2
      omega
    rw [e1, show e - 1 - n = e - (n + 1) by omega]
    generalize N / 10 ^ (e - (n + 1)) = x
    rw [Nat.pow_succ, Nat.mul_comm (10 ^ n) 10, Nat.mod_mul]
    generalize x / 10 % 10 ^ n = y
    rw [show M * (10 * 10 ^ n) = 10 * (M * 10 ^ n) by rw [Nat.mul_left_comm]]
    omega
theorem low_pow {N a n : Nat} (h : N / 10 ^ (a + n) = 0) : N / 10 ^ a % 10 ^ n = N / 10 ^ a := by
  rw [Nat.pow_add, ← Nat.div_div_eq_div_mul] at h
  apply Nat.mod_eq_of_lt
  rcases Nat.lt_or_ge (N / 10 ^ a) (10 ^ n) with hl | hg
  · exact hl
  · have := Nat.div_pos hg (Nat.pow_pos (by decide : 0 < 10))
    omega
theorem put_pow (N sc m : Nat) (h : m ≤ sc) : N / 10 ^ sc * 10 ^ m + N / 10 ^ (sc - m) % 10 ^ m = N / 10 ^ (sc - m) := by
  have : N / 10 ^ sc = N / 10 ^ (sc - m) / 10 ^ m := by
    rw [Nat.div_div_eq_div_mul, ← Nat.pow_add]
    congr 2
    omega
  rw [this]
  exact Nat.div_add_mod' _ _
/-- a digit's letter -/
theorem dg_of {u : ByteArray} {k x : Nat} (h : bt u k = 48 + x % 10) : isDg u k ∧ dgt u k = x % 10 := by
  have hx := Nat.mod_lt x (show 10 > 0 by decide)
  have hk : k < u.size := bt_lt.1 (by omega)
  exact ⟨isDg_iff.2 ⟨by omega, by omega⟩, by rw [dgt_bt hk]; omega⟩
/-- the front of a text, n bytes long, and something behind it that is no digit, no minus, no point -/
structure Cut (t u : ByteArray) (n : Nat) : Prop where
  le : n ≤ t.size
  eq : ∀ k, k < n → bt u k = bt t k
  nd : ¬ isDg u n
  nm : bt u n ≠ 45
  np : bt u n ≠ 46
  s64 : u.size ≤ 64
theorem Cut.whole {t u : ByteArray} {neg : Bool} {i h sc N n m : Nat} (T : Txt t neg i h sc N) (hm : 1 ≤ m) (hmh : m ≤ h) (hq : ∀ k, k < i + m → bt u k = bt t k) (hx : ¬ isDg u (i + m)) : Whol u i (i + m) (N / 10 ^ (sc + h - m)) := by
  have hd : ∀ k, k < m → isDg u (i + k) ∧ dgt u (i + k) = N / 10 ^ (sc + h - 1 - k) % 10 := fun k hk => dg_of (by rw [hq _ (by omega)]; exact T.fr k (by omega))
  have hv : nv u i 0 m = N / 10 ^ (sc + h - m) := by
    rw [nv_pow u i 0 N (sc + h) m (by omega) (fun k hk => (hd k hk).2), Nat.zero_mul, Nat.zero_add]
    exact low_pow (by rw [show sc + h - m + m = sc + h by omega]; exact T.top)
  constructor
  by_cases h0 : bt u i = 48
  · left
    have hf := T.fr 0 (by have := T.hp; omega)
    rw [Nat.add_zero, ← hq i (by omega), h0] at hf
    have hz : N / 10 ^ (sc + h - 1) % 10 = 0 := by simpa using hf.symm
    have hlt : N / 10 ^ (sc + h - 1) % 10 ^ 1 = N / 10 ^ (sc + h - 1) := low_pow (by rw [show sc + h - 1 + 1 = sc + h by have := T.hp; omega]; exact T.top)
    rw [Nat.pow_one] at hlt
    rcases T.ld with h1 | h1
    · have hm1 : m = 1 := by omega
      subst hm1
      exact ⟨h0, rfl, by omega⟩
    · omega
  · right
    exact ⟨h0, m, hm, rfl, fun k hk => (hd k hk).1, hx, hv.symm⟩
theorem Cut.mins {t u : ByteArray} {neg : Bool} {i h sc N n : Nat} (T : Txt t neg i h sc N) (hn : 0 < n) (hq : ∀ k, k < n → bt u k = bt t k) : Mins u neg i := by
  constructor
  rcases T.mi with ⟨rfl, rfl, h1⟩ | ⟨rfl, rfl⟩
  · exact Or.inl ⟨rfl, by rw [hq 0 hn]; exact h1, rfl⟩
  · refine Or.inr ⟨rfl, ?_, rfl⟩
    have := T.fr 0 (by have := T.hp; omega)
    have hx := Nat.mod_lt (N / 10 ^ (sc + h - 1 - 0)) (show 10 > 0 by decide)
    rw [hq 0 hn]
    simp only [Nat.add_zero] at this
    omega
/-- how a front is read -/
theorem Cut.read {t u : ByteArray} {neg : Bool} {i h sc N n : Nat} (T : Txt t neg i h sc N) (C : Cut t u n) :
    (∃ ng, Mins u ng n) ∨ (i < n ∧ n ≤ i + h ∧ Mins u neg i ∧ Whol u i n (N / 10 ^ (sc + h - (n - i))) ∧ Frac u n n 0 (N / 10 ^ (sc + h - (n - i))) (N / 10 ^ (sc + h - (n - i)))) ∨ (n = i + h + 1 ∧ Mins u neg i ∧ Whol u i (i + h) (N / 10 ^ sc) ∧ bt u (i + h) = 46)
    ∨ (∃ m, 1 ≤ m ∧ m ≤ sc ∧ n = i + h + 1 + m ∧ Mins u neg i ∧ Whol u i (i + h) (N / 10 ^ sc) ∧ Frac u (i + h) n m (N / 10 ^ sc) (N / 10 ^ (sc - m))) := by
  by_cases hni : n ≤ i
  · left
    rcases Nat.eq_zero_or_pos n with rfl | hn
    · exact ⟨false, ⟨Or.inr ⟨rfl, C.nm, rfl⟩⟩⟩
    · rcases T.mi with ⟨rfl, rfl, h1⟩ | ⟨rfl, rfl⟩
      · have : n = 1 := by omega
        subst this
        exact ⟨true, Cut.mins T hn C.eq⟩
      · omega
  · right
    have hm := Cut.mins T (by omega) C.eq
    by_cases hnh : n ≤ i + h
    · left
      have hw := Cut.whole (n := n) (m := n - i) T (by omega) (by omega) (fun k hk => C.eq k (by omega)) (by rw [show i + (n - i) = n by omega]; exact C.nd)
      rw [show i + (n - i) = n by omega] at hw
      exact ⟨by omega, hnh, hm, hw, ⟨Or.inl ⟨C.np, rfl, rfl, rfl⟩⟩⟩
    · right
      have hle := C.le
      have hsz := T.sz
      have hsc : 0 < sc := by
        rcases Nat.eq_zero_or_pos sc with h0 | h0
        · rw [if_pos h0] at hsz; omega
        · exact h0
      rw [if_neg (by omega)] at hsz
      have hp : bt u (i + h) = 46 := by rw [C.eq _ (by omega)]; exact T.pt hsc
      have hw := Cut.whole (n := n) (m := h) T T.hp (Nat.le_refl _) (fun k hk => C.eq k (by omega)) (by intro hx; have := isDg_iff.1 hx; omega)
      rw [show sc + h - h = sc by omega] at hw
      by_cases hn1 : n = i + h + 1
      · left
        exact ⟨hn1, hm, hw, hp⟩
      · right
        refine ⟨n - (i + h + 1), by omega, by omega, by omega, hm, hw, ⟨Or.inr ⟨hp, by omega, by have := T.s18; omega, by omega, fun k hk => ?_, Or.inr C.nd, ?_⟩⟩⟩
        · exact (dg_of (by rw [C.eq _ (by omega)]; exact T.bk k (by omega))).1
        · rw [nv_pow u (i + h + 1) (N / 10 ^ sc) N sc (n - (i + h + 1)) (by omega) (fun k hk => (dg_of (by rw [C.eq _ (by omega)]; exact T.bk k (by omega))).2)]
          exact (put_pow N sc _ (by omega)).symm
/-- the answer at a fault -/
def PF (u : ByteArray) (k : Nat) : Prop := ∀ w, Calls Try.prog 11 #[.string u] w fun e w' => e = .returned (.tuple #[.agg #[.int .i64 0, .int .u64 0, .int .i64 0], .int .i64 (k : Int), .int .i64 6]) ∧ Below w.heap.size w w'
def PY (u : ByteArray) (c : Int) (sc : Nat) : Prop := ∀ w, Calls Try.prog 11 #[.string u] w fun e w' => e = .returned (.tuple #[.agg (dcs c sc).toArray, .int .i64 0, .int .i64 0]) ∧ Below w.heap.size w w'
theorem div_big {N k : Nat} (h : N < B127) : N / 10 ^ k < B127 := Nat.lt_of_le_of_lt (Nat.div_le_self _ _) h
theorem Cut.wrong {t u : ByteArray} {neg : Bool} {i h sc N n : Nat} (T : Txt t neg i h sc N) (C : Cut t u n) (hn : n < u.size) : PF u n := by
  intro w
  rcases C.read T with ⟨ng, hm⟩ | ⟨_, _, hm, hw, hf⟩ | ⟨rfl, hm, hw, hp⟩ | ⟨m, _, _, _, hm, hw, hf⟩
  · exact p_none hm C.s64 C.nd w
  · exact p_more hm hw hf C.s64 hn w
  · exact p_point hm hw C.s64 hp C.nd w
  · exact p_more hm hw hf C.s64 hn w
theorem Cut.front {t u : ByteArray} {neg : Bool} {i h sc N n : Nat} (T : Txt t neg i h sc N) (C : Cut t u n) (hn : n = u.size) : PF u n ∨ (∃ c s, PY u c s) ∨ (neg = true ∧ n ≠ 0 ∧ PF u 0) := by
  have key : ∀ {j V1 f s V}, Mins u neg i → Whol u i j V1 → Frac u j f s V1 V → f = u.size → V < B127 → i < n → PF u n ∨ (∃ c s, PY u c s) ∨ (neg = true ∧ n ≠ 0 ∧ PF u 0) := by
    intro j V1 f s V hm hw hf hfu hV hin
    by_cases h0 : neg = true ∧ V = 0
    · obtain ⟨rfl, rfl⟩ := h0
      exact Or.inr (Or.inr ⟨rfl, by omega, fun w => p_nought hm hw hf C.s64 hfu w⟩)
    · exact Or.inr (Or.inl ⟨_, _, fun w => p_yes hm hw hf C.s64 hfu hV (fun e e2 => h0 ⟨e, e2⟩) w⟩)
  rcases C.read T with ⟨ng, hm⟩ | ⟨hin, _, hm, hw, hf⟩ | ⟨rfl, hm, hw, hp⟩ | ⟨m, _, _, he, hm, hw, hf⟩
  · exact Or.inl fun w => p_none hm C.s64 C.nd w
  · exact key hm hw hf hn (div_big T.big) hin
  · exact Or.inl fun w => p_point hm hw C.s64 hp C.nd w
  · exact key hm hw hf hn (div_big T.big) (by omega)
theorem Txt.self {t : ByteArray} {neg : Bool} {i h sc N : Nat} (T : Txt t neg i h sc N) : Cut t t t.size := by
  have h0 : ¬ bt t t.size < 256 := fun h => Nat.lt_irrefl _ (bt_lt.1 h)
  exact ⟨Nat.le_refl _, fun k _ => rfl, fun h => by have := isDg_iff.1 h; omega, by omega, by omega, by have := T.s41; omega⟩
/-- a text is read as its number -/
theorem Txt.read {t : ByteArray} {neg : Bool} {i h sc N : Nat} (T : Txt t neg i h sc N) : PY t (sg neg N) sc := by
  intro w
  have C := T.self
  have hsz := T.sz
  have hp := T.hp
  rcases C.read T with ⟨ng, hm⟩ | ⟨hin, hih, hm, hw, hf⟩ | ⟨he, hm, hw, hp⟩ | ⟨m, h1, h2, he, hm, hw, hf⟩
  · exfalso
    have h5 := T.fr 0 (by omega)
    have h6 := Nat.mod_lt (N / 10 ^ (sc + h - 1 - 0)) (show 10 > 0 by decide)
    rw [Nat.add_zero] at h5
    have h7 : (i = 1) ∨ (i = 0) := by
      rcases T.mi with ⟨_, h3, _⟩ | ⟨_, h3⟩
      · exact Or.inl h3
      · exact Or.inr h3
    rcases hm.h with ⟨_, h4, h1⟩ | ⟨_, h4, h1⟩
    · have hi : i = 0 := by omega
      subst hi
      omega
    · omega
  · have h0 : sc = 0 := by
      rcases Nat.eq_zero_or_pos sc with h0 | h0
      · exact h0
      · rw [if_neg (by omega)] at hsz; omega
    subst h0
    have e : N / 10 ^ (0 + h - (t.size - i)) = N := by
      rw [if_pos rfl] at hsz
      rw [show 0 + h - (t.size - i) = 0 by omega, Nat.pow_zero, Nat.div_one]
    rw [e] at hw hf
    exact p_yes hm hw hf C.s64 rfl T.big T.nz w
  · have h0 : sc ≠ 0 := by intro h0; rw [if_pos h0] at hsz; omega
    rw [if_neg h0] at hsz
    omega
  · have h0 : sc ≠ 0 := by omega
    rw [if_neg h0] at hsz
    have hm' : m = sc := by omega
    subst hm'
    rw [Nat.sub_self, Nat.pow_zero, Nat.div_one] at hf
    exact p_yes hm hw hf C.s64 rfl T.big T.nz w
/-- a nought too many -/
theorem p_lead {u : ByteArray} {neg : Bool} {i : Nat} (hm : Mins u neg i) (hs : u.size ≤ 64) (h0 : bt u i = 48) (h1 : isDg u (i + 1)) : PF u (i + 1) := by
  intro w
  have hb := isDg_iff.1 h1
  have hw : Whol u i (i + 1) 0 := ⟨Or.inl ⟨h0, rfl, rfl⟩⟩
  have hf : Frac u (i + 1) (i + 1) 0 0 0 := ⟨Or.inl ⟨by omega, rfl, rfl, rfl⟩⟩
  exact p_more hm hw hf hs (bt_lt.1 (by omega)) w
end Go.Proofs.Ytgcmbiahakampaa
