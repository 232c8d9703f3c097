/- Layer 2, plain words: the CRC-32 step by step: its linearity; what a turned bit does. No program is named here. -/
namespace Go.Proofs.Ytgcfofnlgdfmoaa

def poly : Nat := 3988292384
/-- one bit -/
def step (n : Nat) : Nat := if n % 2 = 1 then (n / 2) ^^^ poly else n / 2
def stepN : Nat → Nat → Nat
  | 0, n => n
  | k + 1, n => stepN k (step n)

theorem xor_half (a b : Nat) : (a ^^^ b) / 2 = a / 2 ^^^ b / 2 := by
  have h := Nat.shiftRight_xor_distrib (a := a) (b := b) (i := 1)
  simpa [Nat.shiftRight_eq_div_pow] using h
theorem xor_odd (a b : Nat) : (a ^^^ b) % 2 = (a % 2 + b % 2) % 2 := by
  have h : (a ^^^ b) % 2 ^ 1 = a % 2 ^ 1 ^^^ b % 2 ^ 1 := Nat.xor_mod_two_pow
  simp only [Nat.pow_one] at h
  rw [h]
  rcases Nat.mod_two_eq_zero_or_one a with ha | ha <;> rcases Nat.mod_two_eq_zero_or_one b with hb | hb <;> rw [ha, hb] <;> rfl
theorem xor_mid (a b c d : Nat) : (a ^^^ b) ^^^ (c ^^^ d) = (a ^^^ c) ^^^ (b ^^^ d) := by
  rw [Nat.xor_assoc, Nat.xor_assoc, ← Nat.xor_assoc b c d, Nat.xor_comm b c, Nat.xor_assoc c b d]
theorem step_xor (a b : Nat) : step (a ^^^ b) = step a ^^^ step b := by
  unfold step
  rw [xor_half, xor_odd]
  rcases Nat.mod_two_eq_zero_or_one a with ha | ha <;> rcases Nat.mod_two_eq_zero_or_one b with hb | hb <;> rw [ha, hb]
  · rfl
  · simp [Nat.xor_assoc]
  · simp only [Nat.reduceAdd, Nat.reduceMod, if_true, if_neg (show ¬ (0 : Nat) = 1 by decide)]
    rw [Nat.xor_assoc, Nat.xor_assoc, Nat.xor_comm poly]
  · simp only [Nat.reduceAdd, Nat.reduceMod, if_true, if_neg (show ¬ (0 : Nat) = 1 by decide)]
    rw [xor_mid, Nat.xor_self, Nat.xor_zero]
theorem stepN_xor (k a b : Nat) : stepN k (a ^^^ b) = stepN k a ^^^ stepN k b := by
  induction k generalizing a b with
  | zero => rfl
  | succ k ih => rw [stepN, stepN, stepN, step_xor, ih]
theorem step_lt {n : Nat} (h : n < 4294967296) : step n < 4294967296 := by
  unfold step
  split
  · exact Nat.xor_lt_two_pow (n := 32) (by omega) (by decide)
  · omega
theorem stepN_lt (k : Nat) {n : Nat} (h : n < 4294967296) : stepN k n < 4294967296 := by
  induction k generalizing n with
  | zero => exact h
  | succ k ih => exact ih (step_lt h)
theorem step_zero : step 0 = 0 := rfl
theorem stepN_zero (k : Nat) : stepN k 0 = 0 := by
  induction k with
  | zero => rfl
  | succ k ih => exact ih
theorem step_inj {n : Nat} (h : n < 4294967296) (h0 : step n = 0) : n = 0 := by
  unfold step at h0
  split at h0
  · have h2 : n / 2 = poly := by
      have := congrArg (· ^^^ poly) h0
      simpa [Nat.xor_assoc] using this
    unfold poly at h2
    omega
  · omega
theorem stepN_inj (k : Nat) {n : Nat} (h : n < 4294967296) (h0 : stepN k n = 0) : n = 0 := by
  induction k generalizing n with
  | zero => exact h0
  | succ k ih => exact step_inj h (ih (step_lt h) h0)
theorem xor_eq_zero' {a b : Nat} (h : a ^^^ b = 0) : a = b := by
  have := congrArg (· ^^^ b) h
  simpa [Nat.xor_assoc] using this
theorem stepN_inj2 (k : Nat) {a b : Nat} (ha : a < 4294967296) (hb : b < 4294967296) (h : stepN k a = stepN k b) : a = b := by
  have h1 : stepN k (a ^^^ b) = 0 := by rw [stepN_xor, h, Nat.xor_self]
  exact xor_eq_zero' (stepN_inj k (Nat.xor_lt_two_pow (n := 32) ha hb) h1)
theorem stepN_add (j k n : Nat) : stepN (j + k) n = stepN k (stepN j n) := by
  induction j generalizing n with
  | zero => rw [Nat.zero_add]; rfl
  | succ j ih => rw [Nat.succ_add]; exact ih _
theorem step_even (n : Nat) : step (2 * n) = n := by
  unfold step
  rw [if_neg (by omega)]
  omega
theorem stepN_pow (k n : Nat) : stepN k (2 ^ k * n) = n := by
  induction k generalizing n with
  | zero => simp [stepN]
  | succ k ih =>
    rw [stepN, Nat.pow_succ, show 2 ^ k * 2 * n = 2 * (2 ^ k * n) by ac_rfl, step_even]
    exact ih n
/-- one byte, as the document has it -/
def byteUp (r c : Nat) : Nat := stepN 8 (r ^^^ c)
theorem split_xor (k n : Nat) : n = (2 ^ k * (n / 2 ^ k)) ^^^ (n % 2 ^ k) := by
  have h := Nat.two_pow_add_eq_or_of_lt (Nat.mod_lt n (Nat.two_pow_pos k)) (n / 2 ^ k)
  have h1 : 2 ^ k * (n / 2 ^ k) + n % 2 ^ k = n := Nat.div_add_mod n (2 ^ k)
  have h2 : 2 ^ k * (n / 2 ^ k) ||| n % 2 ^ k = (2 ^ k * (n / 2 ^ k)) ^^^ (n % 2 ^ k) := by
    apply Nat.eq_of_testBit_eq
    intro i
    rw [Nat.testBit_or, Nat.testBit_xor, Nat.testBit_mod_two_pow, Nat.testBit_two_pow_mul]
    by_cases hi : i < k
    · simp [hi, Nat.not_le.2 hi]
    · simp [hi]
  rw [← h2, ← h, h1]
/-- one byte, by the table of what eight steps make of each lowest byte -/
theorem byteUp_table (r c : Nat) : byteUp r c = (r / 256) ^^^ stepN 8 ((r % 256) ^^^ c) := by
  have h := split_xor 8 r
  have e : byteUp r c = stepN 8 (((2 ^ 8 * (r / 2 ^ 8)) ^^^ (r % 2 ^ 8)) ^^^ c) := by rw [← h]; rfl
  rw [e, Nat.xor_assoc, stepN_xor, stepN_pow]
def reg (s : Nat) (l : List Nat) : Nat := l.foldl byteUp s
theorem reg_nil (s : Nat) : reg s [] = s := rfl
theorem reg_cons (s c : Nat) (l : List Nat) : reg s (c :: l) = reg (byteUp s c) l := rfl
theorem reg_append (s : Nat) (a b : List Nat) : reg s (a ++ b) = reg (reg s a) b := by simp [reg]
theorem byteUp_lt {r c : Nat} (hr : r < 4294967296) (hc : c < 256) : byteUp r c < 4294967296 :=
  stepN_lt 8 (Nat.xor_lt_two_pow (n := 32) hr (by omega))
theorem reg_lt {s : Nat} {l : List Nat} (hs : s < 4294967296) (hl : ∀ c ∈ l, c < 256) : reg s l < 4294967296 := by
  induction l generalizing s with
  | nil => exact hs
  | cons c l ih => exact ih (byteUp_lt hs (hl c (by simp))) fun x hx => hl x (by simp [hx])
theorem byteUp_left (s t c : Nat) : byteUp (s ^^^ t) c = byteUp s c ^^^ stepN 8 t := by
  unfold byteUp
  rw [Nat.xor_assoc, Nat.xor_comm t c, ← Nat.xor_assoc, stepN_xor]
theorem reg_left (s t : Nat) (l : List Nat) : reg (s ^^^ t) l = reg s l ^^^ stepN (8 * l.length) t := by
  induction l generalizing s t with
  | nil => rfl
  | cons c l ih =>
    rw [reg_cons, reg_cons, byteUp_left, ih, ← stepN_add, List.length_cons, show 8 + 8 * l.length = 8 * (l.length + 1) by omega]
/-- bits turned in one byte -/
theorem reg_set (s : Nat) (l : List Nat) (j d : Nat) (c : Nat) (hj : l[j]? = some c) : reg s (l.set j (c ^^^ d)) = reg s l ^^^ stepN (8 * (l.length - j)) d := by
  induction l generalizing s j with
  | nil => simp at hj
  | cons x l ih =>
    cases j with
    | zero =>
      simp at hj; subst hj
      rw [List.set_cons_zero, reg_cons, reg_cons]
      have e : byteUp s (x ^^^ d) = byteUp s x ^^^ stepN 8 d := by
        unfold byteUp; rw [← Nat.xor_assoc, stepN_xor]
      rw [e, reg_left, ← stepN_add, List.length_cons, show 8 + 8 * l.length = 8 * (l.length + 1 - 0) by omega]
    | succ j =>
      simp at hj
      rw [List.set_cons_succ, reg_cons, reg_cons, ih _ _ hj, List.length_cons, show l.length + 1 - (j + 1) = l.length - j by omega]
/-- a single bit, wherever it stands -/
theorem bit_moves (m k : Nat) (h : k ≤ m) : stepN m (2 ^ k) = stepN (m - k) 1 := by
  have h1 : stepN m (2 ^ k) = stepN (k + (m - k)) (2 ^ k) := by rw [show k + (m - k) = m by omega]
  have h2 := stepN_pow k 1
  rw [Nat.mul_one] at h2
  rw [h1, stepN_add, h2]

/-- a sum's four bytes, the lowest first -/
def four (n : Nat) : List Nat := [n % 256, n / 256 % 256, n / 65536 % 256, n / 16777216 % 256]
def full : Nat := 4294967295
def sumN (l : List Nat) : Nat := reg full l ^^^ full
theorem sumN_lt {l : List Nat} (hl : ∀ c ∈ l, c < 256) : sumN l < 4294967296 :=
  Nat.xor_lt_two_pow (n := 32) (reg_lt (by decide) hl) (by decide)
theorem byteUp_low (s n : Nat) : byteUp s (n % 256) = stepN 8 (s ^^^ n) ^^^ n / 256 := by
  have h : n = (256 * (n / 256)) ^^^ (n % 256) := split_xor 8 n
  have e : s ^^^ (n % 256) = (s ^^^ n) ^^^ (256 * (n / 256)) := by
    have h2 : n % 256 = n ^^^ (256 * (n / 256)) := by
      apply xor_eq_zero'
      rw [← Nat.xor_assoc, Nat.xor_comm (n % 256) n, Nat.xor_assoc, Nat.xor_comm (n % 256), ← h, Nat.xor_self]
    rw [h2, Nat.xor_assoc]
  have h3 := stepN_pow 8 (n / 256)
  unfold byteUp
  rw [e, stepN_xor]
  rw [show (256 : Nat) = 2 ^ 8 from rfl] at *
  rw [h3]
/-- a word of four bytes behind: thirty-two steps -/
theorem reg_four (s n : Nat) (hn : n < 4294967296) : reg s (four n) = stepN 32 (s ^^^ n) := by
  have h1 := byteUp_low s n
  have h2 := byteUp_low (stepN 8 (s ^^^ n) ^^^ n / 256) (n / 256)
  have e2 : (stepN 8 (s ^^^ n) ^^^ n / 256) ^^^ n / 256 = stepN 8 (s ^^^ n) := by rw [Nat.xor_assoc, Nat.xor_self, Nat.xor_zero]
  rw [e2, ← stepN_add, Nat.div_div_eq_div_mul] at h2
  have h3 := byteUp_low (stepN (8 + 8) (s ^^^ n) ^^^ n / (256 * 256)) (n / (256 * 256))
  have e3 : (stepN (8 + 8) (s ^^^ n) ^^^ n / (256 * 256)) ^^^ n / (256 * 256) = stepN (8 + 8) (s ^^^ n) := by rw [Nat.xor_assoc, Nat.xor_self, Nat.xor_zero]
  rw [e3, ← stepN_add, Nat.div_div_eq_div_mul] at h3
  have h4 := byteUp_low (stepN (8 + 8 + 8) (s ^^^ n) ^^^ n / (256 * 256 * 256)) (n / (256 * 256 * 256))
  have e4 : (stepN (8 + 8 + 8) (s ^^^ n) ^^^ n / (256 * 256 * 256)) ^^^ n / (256 * 256 * 256) = stepN (8 + 8 + 8) (s ^^^ n) := by rw [Nat.xor_assoc, Nat.xor_self, Nat.xor_zero]
  rw [e4, ← stepN_add, Nat.div_div_eq_div_mul] at h4
  simp only [Nat.reduceMul, Nat.reduceAdd] at h1 h2 h3 h4
  rw [four, reg_cons, reg_cons, reg_cons, reg_cons, reg_nil, h1, h2, h3, h4, show n / 4294967296 = 0 by omega, Nat.xor_zero]
/-- sealed bytes: what a register is behind them -/
def opened : Nat := stepN 32 full
theorem opens_iff (l : List Nat) (n : Nat) (hl : ∀ c ∈ l, c < 256) (hn : n < 4294967296) : sumN l = n ↔ reg full (l ++ four n) = opened := by
  have hr := reg_lt (s := full) (by decide) hl
  rw [reg_append, reg_four _ _ hn]
  constructor
  · rintro rfl
    rw [sumN, ← Nat.xor_assoc, Nat.xor_self, Nat.zero_xor]; rfl
  · intro h
    have h1 := stepN_inj2 32 (Nat.xor_lt_two_pow (n := 32) hr hn) (by decide) h
    have h2 : reg full l ^^^ full = reg full l ^^^ (reg full l ^^^ n) := by rw [h1]
    rw [sumN, h2, ← Nat.xor_assoc, Nat.xor_self, Nat.zero_xor]
end Go.Proofs.Ytgcfofnlgdfmoaa
