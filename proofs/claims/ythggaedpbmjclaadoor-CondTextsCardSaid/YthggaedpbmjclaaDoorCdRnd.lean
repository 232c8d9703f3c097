/- Layer 13: a condition's words, and back (plain). -/
import Derived.Test.YthggaedpbmjclaaDoorCdPar
namespace Go.Proofs.YthggaedpbmjclaaDoor
open Go.RowKit Go.Proofs

theorem dec_more {u : Nat} (h : ¬ u < 10) : Lib.decDigits u = Lib.decDigits (u / 10) ++ [UInt8.ofNat (48 + u % 10)] := by rw [Lib.decDigits, dif_neg h]
theorem dig_nat {d : Nat} (h : d < 10) : (UInt8.ofNat (48 + d)).toNat = 48 + d := by rw [UInt8.toNat_ofNat']; omega
theorem numF_cons (c : UInt8) (r : List UInt8) (acc : Nat) : numF acc (c :: r) = if 48 ≤ c.toNat ∧ c.toNat ≤ 57 then numF (acc * 10 + (c.toNat - 48)) r else none := rfl
theorem numF_app : ∀ (a b : List UInt8) (acc : Nat), numF acc (a ++ b) = (numF acc a).bind fun n => numF n b
  | [], _, _ => rfl
  | c :: r, b, acc => by
    rw [List.cons_append, numF_cons, numF_cons]
    split
    · exact numF_app r b _
    · rfl
theorem numF_dig (acc : Nat) {d : Nat} (h : d < 10) : numF acc [UInt8.ofNat (48 + d)] = some (acc * 10 + d) := by
  unfold numF
  rw [dig_nat h, if_pos (by omega)]
  unfold numF
  congr 1
  omega
theorem numF_dec : ∀ u : Nat, numF 0 (Lib.decDigits u) = some u := by
  intro u
  induction u using Nat.strongRecOn with
  | ind u ih =>
    by_cases h : u < 10
    · rw [Lib.decDigits_one h, numF_dig 0 h]; simp
    · rw [dec_more h, numF_app, ih (u / 10) (by omega)]
      show numF (u / 10) _ = _
      rw [numF_dig _ (by omega)]
      congr 1
      omega
theorem dec_head : ∀ u : Nat, ∃ d r, Lib.decDigits u = UInt8.ofNat (48 + d) :: r ∧ d < 10 ∧ (1 ≤ u → 1 ≤ d) ∧ (u < 10 → r = []) := by
  intro u
  induction u using Nat.strongRecOn with
  | ind u ih =>
    by_cases h : u < 10
    · exact ⟨u, [], Lib.decDigits_one h, h, id, fun _ => rfl⟩
    · obtain ⟨d, r, e, h1, h2, -⟩ := ih (u / 10) (by omega)
      exact ⟨d, r ++ [UInt8.ofNat (48 + u % 10)], by rw [dec_more h, e]; rfl, h1, fun _ => h2 (by omega), fun h3 => absurd h3 h⟩
theorem dec_len : ∀ (n u : Nat), u < 10 ^ (n + 1) → (Lib.decDigits u).length ≤ n + 1
  | 0, u, h => by rw [Lib.decDigits_one (by simpa using h)]; simp
  | n + 1, u, h => by
    by_cases h1 : u < 10
    · rw [Lib.decDigits_one h1]; simp
    · have := dec_len n (u / 10) (by rw [Nat.pow_succ] at h; omega)
      rw [dec_more h1, List.length_append]
      simp
      omega
theorem numS_dec {u : Nat} (h : u < 10000000000000000000) : numS (Lib.decDigits u) = true := by
  obtain ⟨d, r, e, h1, h2, h3⟩ := dec_head u
  have hl := dec_len 18 u (by simpa using h)
  unfold numS
  rw [e] at hl ⊢
  have e1 : (UInt8.ofNat (48 + d) :: r).isEmpty = false := rfl
  have e2 : decide (19 < (UInt8.ofNat (48 + d) :: r).length) = false := decide_eq_false (by omega)
  rw [e1, e2]
  by_cases hu : u < 10
  · rw [h3 hu]; rfl
  · have e3 : ((UInt8.ofNat (48 + d) :: r).head? == some 48) = false := by
      rw [beq_eq_false_iff_ne]
      intro h4
      have h5 : UInt8.ofNat (48 + d) = 48 := Option.some.inj h4
      have h6 := dig_nat h1
      rw [h5] at h6
      have : (48 : UInt8).toNat = 48 := rfl
      have := h2 (by omega)
      omega
    rw [e3]
    simp
theorem numN_dec {u m : Nat} (h : u < 10000000000000000000) (hm : u ≤ m) : numN (Lib.decDigits u) m = some u := by
  unfold numN
  rw [numS_dec h, numF_dec]
  simp [hm]
theorem minusB_dec (u : Nat) : minusB (Lib.decDigits u) = false := by
  obtain ⟨d, r, e, h1, -, -⟩ := dec_head u
  unfold minusB
  rw [e, beq_eq_false_iff_ne]
  intro h4
  have h5 : UInt8.ofNat (48 + d) = 45 := Option.some.inj h4
  have h6 := dig_nat h1
  rw [h5] at h6
  have : (45 : UInt8).toNat = 45 := rfl
  omega
theorem signF_itoa {z : Int} (h0 : -9223372036854775808 ≤ z) (h1 : z < 9223372036854775808) : signF (Lib.itoa z) = some z := by
  by_cases hn : z < 0
  · obtain ⟨u, hu⟩ : ∃ u : Nat, (u : Int) = -z := ⟨(-z).toNat, by omega⟩
    have e : Lib.itoa z = 45 :: Lib.decDigits u := by rw [show z = -(u : Int) by omega, Lib.itoa_neg u (by omega)]
    unfold signF
    rw [e, show minusB (45 :: Lib.decDigits u) = true from rfl, if_pos rfl, show (45 :: Lib.decDigits u).drop 1 = Lib.decDigits u from rfl, numN_dec (by omega) (by omega)]
    simp only
    rw [if_neg (by omega)]
    congr 1
    omega
  · obtain ⟨u, hu⟩ : ∃ u : Nat, (u : Int) = z := ⟨z.toNat, by omega⟩
    have e : Lib.itoa z = Lib.decDigits u := by rw [← hu, Lib.itoa_nonneg u]
    unfold signF
    rw [e, minusB_dec, if_neg (by decide), numN_dec (by omega) (by omega)]
    simp only
    congr 1
/-- the words of what may be a condition tell that condition -/
theorem parsF_back {k tk : Nat} {lim : Int} (h : okC k lim tk) (h0 : -9223372036854775808 ≤ lim) (h1 : lim < 9223372036854775808) : parsF (nameK k :: wordsF k lim tk) = (k, lim, tk, 0) := by
  have hc : checkC k lim tk = 0 := checkC_0.2 h
  have hi : signF (itoB lim).data.toList = some lim := by
    show signF (Lib.itoa lim).toArray.toList = _
    rw [List.toList_toArray]
    exact signF_itoa h0 h1
  have hcc : parsC k lim tk = (k, lim, tk, 0) := if_pos hc
  unfold okC at h
  rcases h with ⟨k1, k2, ht⟩ | ⟨k1, k2, t1, t2, hl, h3⟩
  · subst ht
    have hk : k = 1 ∨ k = 2 := by omega
    have e : wordsF k lim 0 = [itoB lim] := by rcases hk with rfl | rfl <;> rfl
    rw [e, parsF_1 (kindN_name (by omega) (by omega)) hk, hi]
    exact hcc
  · have hd : numN (decB tk).data.toList 1048576 = some tk := by
      show numN (Lib.decDigits tk).toArray.toList _ = _
      rw [List.toList_toArray]
      exact numN_dec (by omega) t2
    by_cases k3 : k = 3
    · obtain rfl : lim = 0 := h3 k3
      have e : wordsF k 0 tk = [decB tk] := by rw [k3]; rfl
      rw [e, parsF_2 (kindN_name (by omega) (by omega)) k3, hd]
      exact hcc
    · have hk : k = 4 ∨ k = 5 := by omega
      have e : wordsF k lim tk = [itoB lim, decB tk] := by rcases hk with rfl | rfl <;> rfl
      rw [e, parsF_3 (kindN_name (by omega) (by omega)) hk, hi, hd]
      exact hcc
/-- a text cut behind each blank -/
def cutW : List UInt8 → List ByteArray → List UInt8 → List ByteArray
  | [], acc, _ => acc
  | c :: r, acc, cur => if c = 32 then cutW r (acc ++ [⟨cur.toArray⟩]) [] else cutW r acc (cur ++ [c])
theorem cutW_cons (c : UInt8) (r : List UInt8) (acc : List ByteArray) (cur : List UInt8) : cutW (c :: r) acc cur = if c = 32 then cutW r (acc ++ [⟨cur.toArray⟩]) [] else cutW r acc (cur ++ [c]) := rfl
theorem cutW_word : ∀ (x : List UInt8) (acc : List ByteArray) (cur r : List UInt8), (∀ c ∈ x, c ≠ 32) → cutW (x ++ 32 :: r) acc cur = cutW r (acc ++ [⟨(cur ++ x).toArray⟩]) []
  | [], acc, cur, r, _ => by rw [List.nil_append, cutW_cons, if_pos rfl, List.append_nil]
  | c :: x, acc, cur, r, h => by
    rw [List.cons_append, cutW_cons, if_neg (h c (by simp)), cutW_word x acc (cur ++ [c]) r (fun d hd => h d (by simp [hd]))]
    simp
def flatW : List ByteArray → List UInt8
  | [] => []
  | x :: r => x.data.toList ++ 32 :: flatW r
theorem cutW_flat : ∀ (l acc : List ByteArray), (∀ x ∈ l, ∀ c ∈ x.data.toList, c ≠ 32) → cutW (flatW l) acc [] = acc ++ l
  | [], acc, _ => by show cutW [] acc [] = _; unfold cutW; simp
  | x :: r, acc, h => by
    show cutW (x.data.toList ++ 32 :: flatW r) acc [] = _
    rw [cutW_word _ _ _ _ (h x (by simp)), cutW_flat r _ (fun y hy => h y (by simp [hy]))]
    simp
theorem joinJ_flat (x : ByteArray) (r : List ByteArray) : (joinJ x r).data.toList ++ [32] = flatW (x :: r) := by
  have : ∀ (r : List ByteArray), tailJ r ++ [32] = 32 :: flatW r := by
    intro r
    induction r with
    | nil => rfl
    | cons y r ih =>
      show (32 :: y.data.toList ++ tailJ r) ++ [32] = 32 :: (y.data.toList ++ 32 :: flatW r)
      rw [List.append_assoc, ih]
      simp
  show (x.data.toList ++ tailJ r).toArray.toList ++ [32] = x.data.toList ++ 32 :: flatW r
  rw [List.toList_toArray, List.append_assoc, this]
end Go.Proofs.YthggaedpbmjclaaDoor
