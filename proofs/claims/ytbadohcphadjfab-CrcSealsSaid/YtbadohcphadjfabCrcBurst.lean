/- Layer 2, plain words: bits turned within 32 side by side. No program is named here. -/
import Derived.Test.YtbadohcphadjfabCrcPlain
namespace Go.Proofs.Ytbadohcphadjfab

/-- the bits below k that are turned, as a number -/
def mask (turn lim : Nat) : Nat → Nat
  | 0 => 0
  | k + 1 => if turn / 2 ^ k % 2 = 1 ∧ k < lim then mask turn lim k + 2 ^ k else mask turn lim k
theorem mask_lt (turn lim k : Nat) : mask turn lim k < 2 ^ k := by
  induction k with
  | zero => simp [mask]
  | succ k ih =>
    rw [mask, Nat.pow_succ]
    split <;> omega
theorem add_xor {a k : Nat} (h : a < 2 ^ k) : a + 2 ^ k = a ^^^ 2 ^ k := by
  have h1 := split_xor k (a + 2 ^ k)
  have h2 : (a + 2 ^ k) / 2 ^ k = 1 := by rw [Nat.add_div_right _ (Nat.two_pow_pos k), Nat.div_eq_of_lt h]
  have h3 : (a + 2 ^ k) % 2 ^ k = a := by rw [Nat.add_mod_right, Nat.mod_eq_of_lt h]
  rw [h2, h3, Nat.mul_one] at h1
  rw [h1, Nat.xor_comm]
/-- one bit more -/
theorem burst_step {s : Nat} {xs m : List Nat} {turn f k L c : Nat} (hl : m.length = L) (hp : f + k < 8 * L) (hc : m[(f + k) / 8]? = some c)
    (h : reg s m = reg s xs ^^^ stepN (8 * L - f) (mask turn (8 * L - f) k)) (hb : turn / 2 ^ k % 2 = 1) :
    reg s (m.set ((f + k) / 8) (c ^^^ 2 ^ ((f + k) % 8))) = reg s xs ^^^ stepN (8 * L - f) (mask turn (8 * L - f) (k + 1)) := by
  have h1 := reg_set s m ((f + k) / 8) (2 ^ ((f + k) % 8)) c hc
  rw [h1, h, hl, bit_moves _ _ (by omega), mask, if_pos ⟨hb, by omega⟩, add_xor (mask_lt _ _ _), stepN_xor, bit_moves (8 * L - f) k (by omega), Nat.xor_assoc, show 8 * (L - (f + k) / 8) - (f + k) % 8 = 8 * L - f - k by omega]
theorem burst_skip {s : Nat} {xs m : List Nat} {turn f k L : Nat} (h : reg s m = reg s xs ^^^ stepN (8 * L - f) (mask turn (8 * L - f) k)) (hb : ¬ (turn / 2 ^ k % 2 = 1 ∧ f + k < 8 * L)) :
    reg s m = reg s xs ^^^ stepN (8 * L - f) (mask turn (8 * L - f) (k + 1)) := by
  rw [h, mask, if_neg (fun hc => hb ⟨hc.1, by omega⟩)]
/-- sealed bytes with bits turned open, just if none was turned -/
theorem burst_opens {l e : List Nat} {n d : Nat} (hl : ∀ c ∈ l, c < 256) (hn : n < 4294967296) (he : e = four n) (hd : d < 4294967296) {j : Nat} (h : reg full (l ++ e) = opened ^^^ stepN j d) :
    (sumN l = n) ↔ d = 0 := by
  rw [opens_iff l n hl hn, ← he, h]
  constructor
  · intro h0
    have h1 : stepN j d = 0 := by
      have := congrArg (opened ^^^ ·) h0
      simpa [← Nat.xor_assoc] using this
    exact stepN_inj j hd h1
  · rintro rfl
    rw [stepN_zero, Nat.xor_zero]
theorem sealed_opens {l : List Nat} (hl : ∀ c ∈ l, c < 256) : reg full (l ++ four (sumN l)) = opened := (opens_iff l (sumN l) hl (sumN_lt hl)).1 rfl
end Go.Proofs.Ytbadohcphadjfab
