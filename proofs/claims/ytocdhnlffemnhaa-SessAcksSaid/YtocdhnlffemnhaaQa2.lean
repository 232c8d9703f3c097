/- Several texts in one: PkPlain, App. -/
import Derived.Maps.AppendAt
import Derived.Deep.AppendLies
import Derived.RegionTactic
import Derived.Deep.RegionLaw
import Derived.OwnWalk
import Derived.Below
/- Layer 3, plain: a number's bytes, and back; no memory, no program. -/
namespace Go.Proofs.Ytocdhnlffemnhaa

/-- a number's bytes: seven bits each, the lowest first -/
def leb (n : Nat) : List Nat := if h : n < 128 then [n] else (n % 128 + 128) :: leb (n / 128)
termination_by n
decreasing_by omega
theorem leb_lt {n : Nat} (h : n < 128) : leb n = [n] := by rw [leb, dif_pos h]
theorem leb_ge {n : Nat} (h : ¬ n < 128) : leb n = (n % 128 + 128) :: leb (n / 128) := by rw [leb, dif_neg h]
theorem leb_ok : ∀ (k n : Nat), n < 128 ^ k → ∀ x ∈ leb n, x < 256
  | 0, n, hn, x, hx => by
    rw [leb_lt (by simp at hn; omega)] at hx
    simp at hx hn; omega
  | k + 1, n, hn, x, hx => by
    by_cases h : n < 128
    · rw [leb_lt h] at hx; simp at hx; omega
    · rw [leb_ge h] at hx
      rcases List.mem_cons.1 hx with rfl | hx
      · omega
      · exact leb_ok k (n / 128) (by rw [Nat.pow_succ] at hn; omega) x hx
theorem leb_pos (n : Nat) : 0 < (leb n).length := by
  by_cases h : n < 128
  · rw [leb_lt h]; simp
  · rw [leb_ge h]; simp
theorem leb_len : ∀ (k n : Nat), n < 128 ^ (k + 1) → (leb n).length ≤ k + 1
  | 0, n, hn => by rw [leb_lt (by simpa using hn)]; simp
  | k + 1, n, hn => by
    by_cases h : n < 128
    · rw [leb_lt h]; simp
    · rw [leb_ge h, List.length_cons]
      have := leb_len k (n / 128) (by rw [Nat.pow_succ] at hn; omega)
      omega
theorem leb_le10 {n : Nat} (h : n < 18446744073709551616) : (leb n).length ≤ 10 := leb_len 9 n (by omega)
theorem leb_bytes {n : Nat} (h : n < 18446744073709551616) : ∀ x ∈ leb n, x < 256 := leb_ok 10 n (by omega)

/-- what is read of a number, i bytes of it taken, their worth acc: the number, what is left, the error -/
def getU (i acc : Nat) : List Nat → Nat × List Nat × Nat
  | [] => (0, [], 3)
  | c :: t => if i = 9 ∧ 1 < c then (0, [], 6) else if 0 < i ∧ c = 0 then (0, [], 2) else if c < 128 then (acc + 128 ^ i * c, t, 0) else getU (i + 1) (acc + 128 ^ i * (c % 128)) t
theorem pow_split (i : Nat) : 128 ^ (i + 1) = 128 ^ i * 128 := Nat.pow_succ 128 i
/-- a number's bytes read as that number -/
theorem getU_leb : ∀ (k i acc n : Nat) (rest : List Nat), k + i = 9 → (0 < i → 0 < n) → n < 2 * 128 ^ k → getU i acc (leb n ++ rest) = (acc + 128 ^ i * n, rest, 0)
  | 0, i, acc, n, rest, hk, hp, hn => by
    simp at hn
    rw [leb_lt (by omega)]
    simp only [List.cons_append, List.nil_append, getU]
    rw [if_neg (by omega), if_neg (by omega), if_pos (by omega)]
  | k + 1, i, acc, n, rest, hk, hp, hn => by
    by_cases h : n < 128
    · rw [leb_lt h]
      simp only [List.cons_append, List.nil_append, getU]
      rw [if_neg (by omega), if_neg (by omega), if_pos h]
    · rw [leb_ge h]
      simp only [List.cons_append, getU]
      rw [if_neg (by omega), if_neg (by omega), if_neg (by omega), getU_leb k (i + 1) _ (n / 128) rest (by omega) (by omega) (by rw [Nat.pow_succ] at hn; omega)]
      have e : (n % 128 + 128) % 128 = n % 128 := by omega
      rw [e, pow_split, Nat.mul_assoc, Nat.add_assoc, ← Nat.mul_add]
      congr 3
      omega
theorem getU_put {n : Nat} (h : n < 18446744073709551616) (rest : List Nat) : getU 0 0 (leb n ++ rest) = (n, rest, 0) := by
  have := getU_leb 9 0 0 n rest rfl (by omega) (by omega)
  simpa using this

/-- a signed number as one that isn't -/
def zig (z : Int) : Nat := if z < 0 then 2 * (-(z + 1)).toNat + 1 else 2 * z.toNat
def zag (n : Nat) : Int := if n % 2 = 1 then -((n / 2 : Nat) : Int) - 1 else ((n / 2 : Nat) : Int)
theorem zag_zig (z : Int) : zag (zig z) = z := by
  unfold zag zig
  by_cases hz : z < 0
  · rw [if_pos hz, if_pos (by omega)]; omega
  · rw [if_neg hz, if_neg (by omega)]; omega
theorem zig_lt {z : Int} (h1 : -9223372036854775808 ≤ z) (h2 : z < 9223372036854775808) : zig z < 18446744073709551616 := by
  unfold zig; split <;> omega

theorem getU_room (k acc c : Nat) (hk : k ≤ 9) (hc : c < 256) (h9 : k = 9 → c ≤ 1) (ha : acc < 128 ^ k) : acc + 128 ^ k * (c % 128) < 18446744073709551616 := by
  match k, hk with
  | 0, _ | 1, _ | 2, _ | 3, _ | 4, _ | 5, _ | 6, _ | 7, _ | 8, _ => simp at ha ⊢; omega
  | 9, _ => have := h9 rfl; simp at ha ⊢; omega
theorem getU_next {k acc c : Nat} (ha : acc < 128 ^ k) : acc + 128 ^ k * (c % 128) < 128 ^ (k + 1) := by
  have hm : c % 128 + 1 ≤ 128 := by omega
  have hm2 := Nat.mul_le_mul_left (128 ^ k) hm
  rw [Nat.mul_add, Nat.mul_one] at hm2
  rw [Nat.pow_succ]
  omega
theorem getU_lt : ∀ (l : List Nat) (k acc : Nat), (∀ x ∈ l, x < 256) → k ≤ 9 → acc < 128 ^ k → (getU k acc l).1 < 18446744073709551616
  | [], _, _, _, _, _ => by simp [getU]
  | c :: t, k, acc, hok, hk, ha => by
    rw [getU]
    split
    · simp
    · rename_i h1
      split
      · simp
      · split
        · rename_i h2
          have h := getU_room k acc c hk (by omega) (by omega) ha
          rw [Nat.mod_eq_of_lt h2] at h
          exact h
        · exact getU_lt t (k + 1) _ (fun x hx => hok x (by simp [hx])) (by omega) (getU_next ha)
/-- where there is an error, the number is nought -/
theorem getU_zero : ∀ (l : List Nat) (k acc : Nat), (getU k acc l).2.2 ≠ 0 → (getU k acc l).1 = 0 ∧ (getU k acc l).2.1 = []
  | [], _, _, _ => by simp [getU]
  | c :: t, k, acc, h => by
    rw [getU] at h ⊢
    split
    · simp
    · rename_i h1
      rw [if_neg h1] at h
      split
      · simp
      · rename_i h2
        rw [if_neg h2] at h
        split
        · rename_i h3
          rw [if_pos h3] at h
          exact absurd rfl h
        · rename_i h3
          rw [if_neg h3] at h
          exact getU_zero t (k + 1) _ h
def getB : List Nat → Bool × List Nat × Nat
  | [] => (false, [], 3)
  | c :: t => if 1 < c then (false, [], 2) else (c == 1, t, 0)
/-- a text of at most so many bytes -/
def getT (most : Nat) (l : List Nat) : List Nat × List Nat × Nat :=
  if (getU 0 0 l).2.2 ≠ 0 then ([], [], (getU 0 0 l).2.2) else if most < (getU 0 0 l).1 then ([], [], 4) else if (getU 0 0 l).2.1.length < (getU 0 0 l).1 then ([], [], 3) else ((getU 0 0 l).2.1.take (getU 0 0 l).1, (getU 0 0 l).2.1.drop (getU 0 0 l).1, 0)
/-- a number that is not above top -/
def getC (top : Nat) (l : List Nat) : Nat × List Nat × Nat :=
  if (getU 0 0 l).2.2 ≠ 0 then (0, [], (getU 0 0 l).2.2) else if top < (getU 0 0 l).1 then (0, [], 6) else ((getU 0 0 l).1, (getU 0 0 l).2.1, 0)

/-- a number's bytes, cut: too short -/
theorem getU_cut : ∀ (k i acc n K : Nat), k + i = 9 → (0 < i → 0 < n) → n < 2 * 128 ^ k → K < (leb n).length → getU i acc ((leb n).take K) = (0, [], 3)
  | 0, i, acc, n, K, _, _, hn, hK => by
    simp at hn
    rw [leb_lt (by omega)] at hK ⊢
    obtain rfl : K = 0 := by simp at hK; omega
    rfl
  | k + 1, i, acc, n, K, hk, hp, hn, hK => by
    cases K with
    | zero => rfl
    | succ K =>
      by_cases h : n < 128
      · rw [leb_lt h] at hK
        simp at hK
      · rw [leb_ge h] at hK ⊢
        simp only [List.take_succ_cons, getU]
        rw [if_neg (by omega), if_neg (by omega), if_neg (by omega)]
        exact getU_cut k (i + 1) _ (n / 128) K (by omega) (by omega) (by rw [Nat.pow_succ] at hn; omega) (by simpa using hK)
/-- a text's bytes, cut: too short -/
theorem getT_cut {n : Nat} (hn : n < 18446744073709551616) (t : List Nat) (ht : t.length = n) (K : Nat) (hK : K < (leb n ++ t).length) : getT n ((leb n ++ t).take K) = ([], [], 3) := by
  unfold getT
  by_cases h : K < (leb n).length
  · have e : (leb n ++ t).take K = (leb n).take K := by
      rw [List.take_append]
      rw [show K - (leb n).length = 0 by omega]
      simp
    rw [e, getU_cut 9 0 0 n K rfl (by omega) (by omega) h]
    simp
  · have e : (leb n ++ t).take K = leb n ++ t.take (K - (leb n).length) := by
      rw [List.take_append]
      rw [List.take_of_length_le (by omega)]
    rw [List.length_append] at hK
    rw [e, getU_put hn]
    simp only [ne_eq, not_true_eq_false, if_false]
    rw [if_neg (by omega), if_pos (by rw [List.length_take]; omega)]
theorem getT_long {n : Nat} (hn : n < 18446744073709551616) (t : List Nat) (most : Nat) (h : most < n) : getT most (leb n ++ t) = ([], [], 4) := by
  unfold getT
  rw [getU_put hn]
  simp only [ne_eq, not_true_eq_false, if_false]
  rw [if_pos h]
theorem getC_put {n : Nat} (hn : n < 18446744073709551616) (top : Nat) : getC top (leb n) = if top < n then (0, [], 6) else (n, [], 0) := by
  unfold getC
  have h := getU_put hn []
  rw [List.append_nil] at h
  rw [h]
  simp
end Go.Proofs.Ytocdhnlffemnhaa
/- append of a whole slice, nil or not, onto a row of the call's own: as a law of a plain walk and of a region that draws. No program is named here. -/
namespace Go.Proofs.Ytocdhnlffemnhaa
open Go.RowKit

/-- what is appended: m elements, whose cells are news; nothing is asked where there is none -/
def Src (w : World) (A : Option Addr) (m size : Nat) (news : List Value) : Prop :=
  news.length = m * size ∧ (0 < m → ∃ ad, A = some ad ∧ ∀ j u, news[j]? = some u → w.cell? (ad.add j) = some u)

section
variable {P : Program} {w : World}

theorem run_append_src {base : Nat} {t ty e : TypeId} {i : TypeInfo} {z : Value} {size bytes : Nat} (ht : P.underlying t = some (.slice e)) (hi : P.info? e = some i) (hz : i.zero = some z)
    (hsize : i.size = size) (hby : i.bytes = bytes) (hzs : z.cells.size = size) (hsz : 0 < size)
    {v : Value} {n : Nat} {xs : List Value} (hown : w.ownsRow base e size v n xs) {A : Option Addr} {m c : Nat} {news : List Value} (hs : Src w A m size news) (h1 : ∀ u ∈ news, u.oneCell' = true)
    (h63 : n + m ≤ maxLen) (hbytes : (n + m) * bytes ≤ 140737488355328) (hbase : base ≤ w.heap.size) :
    ∃ v' w', (Builtin.append_ #[t, t] ty #[v, .slice A m c]).run P w = .ok v' w' ∧ w'.ownsRow base e size v' (n + m) (xs ++ news) ∧ w.grownBy w' v.ownBlock ∧ (v'.ownBlock = v.ownBlock ∨ v'.ownBlock = some w.heap.size) := by
  cases A with
  | none =>
    have hm : m = 0 := by
      rcases Nat.eq_zero_or_pos m with h | h
      · exact h
      · obtain ⟨ad, h', _⟩ := hs.2 h; cases h'
    subst hm
    have hn : news = [] := List.eq_nil_of_length_eq_zero (by simpa using hs.1)
    subst hn
    refine ⟨v, w, ?_, by simpa using hown, World.grownBy.refl w _, .inl rfl⟩
    rcases hown.2 with ⟨rfl, rfl⟩ | ⟨g, cap, cur, rfl, _, _, hnc, _⟩
    · simp [Builtin.append_, run_underlying ht, sizeOf, typeInfo, hi, Builtin.lenOf, Builtin.firstCells]
    · simp [Builtin.append_, run_underlying ht, sizeOf, typeInfo, hi, Builtin.lenOf, Builtin.firstCells, hnc, storeCells]
  | some ad =>
    have hc : ∀ j u, news[j]? = some u → w.cell? (ad.add j) = some u := fun j u hj => by
      rcases Nat.eq_zero_or_pos m with h | h
      · subst h
        have hn : news = [] := List.eq_nil_of_length_eq_zero (by simpa using hs.1)
        subst hn
        simp at hj
      · obtain ⟨ad', e', hc⟩ := hs.2 h
        cases e'
        exact hc j u hj
    obtain ⟨v', w', hrun, h2, h3, _, h5⟩ := run_append_own_at (P := P) w base t ty e i z size bytes ht hi hz hsize hby hzs hsz v n xs hown ad m c news hs.1 hc h1 h63 hbytes hbase
    exact ⟨v', w', hrun, h2, h3, h5⟩

theorem wp_append_src {o : Oper} {a : Act} {K : Act → World → Prop} {Q : Exit → Act → World → Prop} (s x : Operand) {t : TypeId}
    (ho : o.op = .call { callee := .builtin .append, args := #[s, x], argTypes := #[t, t] })
    {base : Nat} {e : TypeId} {i : TypeInfo} {z : Value} {size bytes : Nat} (ht : P.underlying t = some (.slice e)) (hi : P.info? e = some i) (hz : i.zero = some z)
    (hsize : i.size = size) (hby : i.bytes = bytes) (hzs : z.cells.size = size) (hsz : 0 < size)
    {v : Value} {n : Nat} {xs : List Value} (hv : a.eval s = v) (hown : w.ownsRow base e size v n xs) {A : Option Addr} {m c : Nat} {news : List Value} (hx : a.eval x = .slice A m c) (hs : Src w A m size news) (h1 : ∀ u ∈ news, u.oneCell' = true)
    (h63 : n + m ≤ maxLen) (hbytes : (n + m) * bytes ≤ 140737488355328) (hbase : base ≤ w.heap.size)
    (h : ∀ v' w', w'.ownsRow base e size v' (n + m) (xs ++ news) → w.grownBy w' v.ownBlock → (v'.ownBlock = v.ownBlock ∨ v'.ownBlock = some w.heap.size) → K (a.put o.dst v') w') : o.wp P a w K Q := by
  obtain ⟨v', w', hrun, h2, h3, h4⟩ := run_append_src (P := P) (ty := o.type) (c := c) ht hi hz hsize hby hzs hsz hown hs h1 h63 hbytes hbase
  unfold Oper.wp execOp
  simp only [ho, resolve, invoke, builtin, Sem.run_bind, Sem.run_pure, Result.andThen_ok, List.map_toArray, List.map_cons, List.map_nil, hv, hx, hrun]
  exact h v' w' h2 h3 h4

theorem wpList_append_src {ops : Array Oper} {rest : List Oper} {o : Oper} {a : Act} {Q : Exit → Act → World → Prop} (hgd : o.guard = none) (s x : Operand) {t : TypeId}
    (ho : o.op = .call { callee := .builtin .append, args := #[s, x], argTypes := #[t, t] })
    {base : Nat} {e : TypeId} {i : TypeInfo} {z : Value} {size bytes : Nat} (ht : P.underlying t = some (.slice e)) (hi : P.info? e = some i) (hz : i.zero = some z)
    (hsize : i.size = size) (hby : i.bytes = bytes) (hzs : z.cells.size = size) (hsz : 0 < size)
    {v : Value} {n : Nat} {xs : List Value} (hv : a.eval s = v) (hown : w.ownsRow base e size v n xs) {A : Option Addr} {m c : Nat} {news : List Value} (hx : a.eval x = .slice A m c) (hs : Src w A m size news) (h1 : ∀ u ∈ news, u.oneCell' = true)
    (h63 : n + m ≤ maxLen) (hbytes : (n + m) * bytes ≤ 140737488355328) (hbase : base ≤ w.heap.size)
    (h : ∀ v' w', w'.ownsRow base e size v' (n + m) (xs ++ news) → w.grownBy w' v.ownBlock → (v'.ownBlock = v.ownBlock ∨ v'.ownBlock = some w.heap.size) → wpList P ops Q rest (a.put o.dst v') w') : wpList P ops Q (o :: rest) a w :=
  wpList_plain hgd fun _ hK => wp_append_src s x ho ht hi hz hsize hby hzs hsz hv hown hx hs h1 h63 hbytes hbase fun v' w' h2 h3 h4 => hK _ _ (h v' w' h2 h3 h4)

theorem step_append_src {ops : Array Oper} {o : Oper} {a : Act} {K : Act → World → Prop} {Q : Exit → Act → World → Prop} {E : Prop} (hgd : o.guard = none) (s x : Operand) {t : TypeId}
    (ho : o.op = .call { callee := .builtin .append, args := #[s, x], argTypes := #[t, t] })
    {base : Nat} {e : TypeId} {i : TypeInfo} {z : Value} {size bytes : Nat} (ht : P.underlying t = some (.slice e)) (hi : P.info? e = some i) (hz : i.zero = some z)
    (hsize : i.size = size) (hby : i.bytes = bytes) (hzs : z.cells.size = size) (hsz : 0 < size)
    {v : Value} {n : Nat} {xs : List Value} (hv : a.eval s = v) (hown : w.ownsRow base e size v n xs) {A : Option Addr} {m c : Nat} {news : List Value} (hx : a.eval x = .slice A m c) (hs : Src w A m size news) (h1 : ∀ u ∈ news, u.oneCell' = true)
    (h63 : n + m ≤ maxLen) (hbytes : (n + m) * bytes ≤ 140737488355328) (hbase : base ≤ w.heap.size)
    (h : ∀ v' w', w'.ownsRow base e size v' (n + m) (xs ++ news) → w.grownBy w' v.ownBlock → (v'.ownBlock = v.ownBlock ∨ v'.ownBlock = some w.heap.size) → K (a.put o.dst v') w') :
    if Region.wanted o (yielded ops a.tmps) = true then Oper.wp P o a w K Q else E := by
  have hw : Region.wanted o (yielded ops a.tmps) = true := by simp [Region.wanted, hgd]
  rw [if_pos hw]
  exact wp_append_src s x ho ht hi hz hsize hby hzs hsz hv hown hx hs h1 h63 hbytes hbase h
end
end Go.Proofs.Ytocdhnlffemnhaa
