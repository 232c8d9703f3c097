/- Several texts in one: SpBasP, SpBasS. -/
import Derived.Test.YtgcfofnlgdfmoaaMf33
import Derived.Test.YtgcfofnlgdfmoaaMf45
/- Layer 8: SpoolBases, the plain part: what a filled spool is made of is a spool; what of a spool in order is known. -/
namespace Go.Proofs.Ytgcfofnlgdfmoaa
open Go.RowKit

theorem gap_size {x y : It} (h : joinB x y = true) : (itemB (joinI x y)).length ≤ (itemB x).length + (itemB y).length := by
  obtain ⟨h1, h2, _, _, _, h6⟩ := joinB_parts h
  rw [h6]
  unfold itemB gapB
  rw [h1, h2]
  simp only [if_true, List.length_cons, List.length_append, List.length_nil]
  omega
theorem sum_joinK {L : List Ett} {a b : Nat} (hab : a < b) (hb : b < L.length) : sumE (joinK L (some a) (some b)).1 ≤ sumE L := by
  have ha := List.getElem?_eq_getElem (show a < L.length by omega)
  have hb2 := List.getElem?_eq_getElem hb
  obtain ⟨ea, hea⟩ : ∃ x, x = L[a]'(by omega) := ⟨_, rfl⟩
  obtain ⟨eb, heb⟩ : ∃ x, x = L[b] := ⟨_, rfl⟩
  rw [← hea] at ha
  rw [← heb] at hb2
  clear hea heb
  unfold joinK
  simp only
  rw [getD_of ha, getD_of hb2]
  split
  · rename_i hj
    obtain ⟨A, M, R, rfl, hA, hM⟩ := split2 ha hb2 hab
    show sumE (joinL _ _ _ _ _) ≤ _
    rw [joinL_split hA hM hab]
    have := gap_size hj
    simp only [sumE_append, sumE_cons]
    omega
  · exact Nat.le_refl _
theorem room_fits {size q : Nat} : ∀ {fuel : Nat} {L : List Ett} {f v : Nat}, (roomK size q fuel L f v).1 = true → sumE (roomK size q fuel L f v).2.1 + size ≤ q
  | fuel, L, f, v, h => by
    by_cases hf : sumE L + size ≤ q
    · rw [roomK_fit hf]; exact hf
    · cases hl : leastK L L.length with
      | none => rw [roomK_none hf hl] at h; cases h
      | some p =>
        cases fuel with
        | zero =>
          unfold roomK at h
          rw [if_neg hf] at h
          cases h
        | succ k =>
          rw [roomK_some hf hl] at h ⊢
          exact room_fits h
theorem sum_addJ (L : List Ett) (e : Ett) : sumE (addJ L e).1 ≤ sumE L + (itemB e.x).length := by
  have h : sumE (L ++ [e]) = sumE L + (itemB e.x).length := by rw [sumE_append, sumE_cons]; rfl
  unfold addJ
  split
  · cases hp : prevK (L ++ [e]) (spO e.x) L.length with
    | none => exact Nat.le_of_eq h
    | some i =>
      rw [← h]
      exact sum_joinK (prevK_some hp).1 (by rw [List.length_append]; exact Nat.lt_succ_self _)
  · exact Nat.le_of_eq h
theorem sum_put {X : Sp} {L : List Ett} (h : sumE L ≤ X.q) (x : It) (A : Option Addr) (c : Nat) : sumE (putR X L x A c).2.2.2.2 ≤ X.q := by
  unfold putR
  split
  · exact h
  · dsimp only
    split
    · exact h
    · rename_i hr
      split
      · exact h
      · have h1 := room_fits (size := (itemB (partI x X.h)).length) (q := X.q) (fuel := cntE L) (L := L) (f := 0) (v := X.v) (by simpa using hr)
        exact Nat.le_trans (sum_addJ _ _) h1
theorem putR_a (X : Sp) (L : List Ett) (x : It) (A : Option Addr) (c : Nat) : (putR X L x A c).2.2.2.1.a = X.a := by
  unfold putR
  split
  · rfl
  · dsimp only
    split
    · rfl
    · split
      · rfl
      · rfl
/-- entries in order are taken over -/
theorem chk_of_chain {n : Nat} {h : Nat → Nat} : ∀ {L : List Ett} {b : Nat} {E : Nat → Nat}, (∀ o, ∃ m, chainO o L (E o) = some m) → (idxL L).Pairwise (· < ·) → (∀ i ∈ idxL L, b < i ∧ i < n) → (∀ e ∈ L, spT e.x ≤ h (spO e.x)) → ∃ b', chkL n h L b E = some (b', adv L E)
  | [], b, E, _, _, _, _ => ⟨b, rfl⟩
  | e :: L, b, E, hc, hp, hi, ht => by
    have hp' : (e.i :: idxL L).Pairwise (· < ·) := hp
    rw [List.pairwise_cons] at hp'
    have hie := hi e.i List.mem_cons_self
    have hf : spF e.x = E (spO e.x) + 1 := by
      obtain ⟨m, hm⟩ := hc (spO e.x)
      unfold chainO at hm
      rw [if_pos rfl] at hm
      split at hm
      · assumption
      · cases hm
    have hk : ChkE n h b E e := ⟨hie.1, hie.2, .inr hf, ht e List.mem_cons_self⟩
    have e0 : chkL n h (e :: L) b E = chkL n h L e.i (upT E e.x) := by
      show (if _ then _ else _) = _
      rw [if_pos hk]
    rw [e0]
    refine chk_of_chain (fun o => ?_) hp'.2 (fun i hi2 => ⟨hp'.1 i hi2, (hi i (List.mem_cons_of_mem _ hi2)).2⟩) (fun x hx => ht x (List.mem_cons_of_mem _ hx))
    obtain ⟨m, hm⟩ := hc o
    unfold chainO at hm
    unfold upT
    by_cases ho : spO e.x = o
    · rw [if_pos ho] at hm
      rw [if_pos ho.symm]
      split at hm
      · exact ⟨m, hm⟩
      · cases hm
    · rw [if_neg ho] at hm
      rw [if_neg (fun h => ho h.symm)]
      exact ⟨m, hm⟩
theorem chkL_same {n : Nat} {h : Nat → Nat} : ∀ {L M : List Ett} {b : Nat} {E : Nat → Nat}, SameE L M → chkL n h L b E = chkL n h M b E
  | L, M, b, E, hs => by
    rcases same_cons hs with ⟨rfl, rfl⟩ | ⟨a, c, l, m, rfl, rfl, hi, hx, hs⟩
    · rfl
    · have e0 : ∀ (y : Ett) (k : List Ett), chkL n h (y :: k) b E = if ChkE n h b E y then chkL n h k y.i (upT E y.x) else none := fun _ _ => rfl
      rw [e0, e0]
      have hc : ChkE n h b E a ↔ ChkE n h b E c := by unfold ChkE; rw [hi, hx]
      by_cases hk : ChkE n h b E a
      · rw [if_pos hk, if_pos (hc.1 hk), hi, hx]
        exact chkL_same hs
      · rw [if_neg hk, if_neg (fun h => hk (hc.2 h))]
  termination_by L => L.length
/-- a filled spool -/
structure Full (X : Sp) (L : List Ett) (k : Nat) : Prop where
  ok : SpOk X L k
  cov : Cov (fun _ => 0) X.h L
  sum : sumE L ≤ X.q
theorem Full.put {X : Sp} {L : List Ett} {k : Nat} (h : Full X L k) (x : It) (A : Option Addr) (c : Nat) (hk : SpOk (putR X L x A c).2.2.2.1 (putR X L x A c).2.2.2.2 (k + 1)) : Full (putR X L x A c).2.2.2.1 (putR X L x A c).2.2.2.2 (k + 1) :=
  ⟨hk, h.cov.put x A c, by rw [putR_q]; exact sum_put h.sum x A c⟩
theorem Full.more {X : Sp} {L : List Ett} {k j : Nat} (h : Full X L k) (hj : k ≤ j) : Full X L j := ⟨h.ok.more hj, h.cov, h.sum⟩
theorem Full.of {X : Sp} {L : List Ett} {k : Nat} (h : Full X L k) (hk : k ≤ 60) (hq : 64 ≤ X.q) : OfOk X.q X L := by
  refine ⟨⟨by have := h.ok.n1; omega, by have := h.ok.nk; omega, h.ok.an, by have := h.ok.len; omega⟩, ?_, h.sum⟩
  obtain ⟨b, hb⟩ := chk_of_chain (n := X.n) (h := X.h) (L := L) (b := X.a) (E := fun _ => 0) (fun o => ⟨_, h.cov.ch o⟩) h.ok.rise h.ok.ix (fun e he => (h.cov.ok e he).2)
  exact ⟨b, _, hb, fun o _ => ⟨.inr (chain_adv (h.cov.ch o)), h.ok.hs o⟩⟩
theorem OfOk.same {q : Nat} {X : Sp} {L M : List Ett} (h : OfOk q X L) (hs : SameE L M) : OfOk q X M := by
  obtain ⟨⟨h1, h2, h3, h4⟩, ⟨b, E, h5, h6⟩, h7⟩ := h
  exact ⟨⟨h1, h2, h3, by rw [← hs.len]; exact h4⟩, ⟨b, E, by rw [← chkL_same hs]; exact h5, h6⟩, by rw [← sum_same hs]; exact h7⟩
/-- the next entry of those in order -/
theorem chk_step {n : Nat} {h : Nat → Nat} {L : List Ett} {j b : Nat} {E : Nat → Nat} {e : Ett} {r : Nat × (Nat → Nat)} (hc : chkL n h (L.drop j) b E = some r) (he : L[j]? = some e) : b < e.i ∧ e.i < n ∧ spT e.x ≤ h (spO e.x) ∧ chkL n h (L.drop (j + 1)) e.i (upT E e.x) = some r := by
  have hd : L.drop j = e :: L.drop (j + 1) := by
    rw [List.drop_eq_getElem_cons (List.getElem?_eq_some_iff.1 he).1, (List.getElem?_eq_some_iff.1 he).2]
  rw [hd] at hc
  have e0 : chkL n h (e :: L.drop (j + 1)) b E = if ChkE n h b E e then chkL n h (L.drop (j + 1)) e.i (upT E e.x) else none := rfl
  rw [e0] at hc
  by_cases hk : ChkE n h b E e
  · rw [if_pos hk] at hc
    exact ⟨hk.1, hk.2.1, hk.2.2.2, hc⟩
  · rw [if_neg hk] at hc; cases hc
theorem chk_rise {n : Nat} {h : Nat → Nat} : ∀ {L : List Ett} {b : Nat} {E : Nat → Nat} {r : Nat × (Nat → Nat)}, chkL n h L b E = some r → (idxL L).Pairwise (· < ·) ∧ ∀ i ∈ idxL L, b < i ∧ i < n
  | [], b, E, r, _ => ⟨List.Pairwise.nil, fun i hi => by cases hi⟩
  | e :: L, b, E, r, hc => by
    obtain ⟨h1, h2, _, h4⟩ := chk_step (L := e :: L) (j := 0) (e := e) hc rfl
    obtain ⟨h5, h6⟩ := chk_rise (L := L) h4
    refine ⟨List.pairwise_cons.2 ⟨fun i hi => (h6 i hi).1, h5⟩, fun i hi => ?_⟩
    rcases List.mem_cons.1 hi with rfl | hi
    · exact ⟨h1, h2⟩
    · have := h6 i hi; omega
theorem riseE_of {L : List Ett} (hr : (idxL L).Pairwise (· < ·)) : RiseE L := fun i j a b hij ha hb => by
  obtain ⟨hi, ha⟩ := List.getElem?_eq_some_iff.1 ha
  obtain ⟨hj, hb⟩ := List.getElem?_eq_some_iff.1 hb
  unfold idxL at hr
  rw [List.pairwise_map] at hr
  have := List.pairwise_iff_getElem.1 hr i j hi hj hij
  rwa [ha, hb] at this
/-- all that waits in a spool whose indexes rise -/
theorem listAll_at {w : World} {S : Nat → Prop} {s : Nat} {X : Sp} {L : List Ett} (hs : SpAt w S s X L) (hr : RiseE L) (hp : ∀ i ∈ idxL L, 0 < i) (hlen : L.length ≤ 1000) :
    Calls Try.prog 23 #[.pointer (some ⟨s, 0, none⟩), .int .u64 0, .int .i64 1000] w fun e w' => ∃ A' c' M, e = .returned (.slice A' M.length c') ∧ SameE L M ∧ RdM8 w' A' M ∧ Below w.heap.size w w' := by
  refine (list_any (N := 0) 1000 (by decide) (by decide) w hs hr).mono ?_
  rintro e w' ⟨A', c', M, m, he, hsm, hrow, hm, hlo, hhi, hb⟩
  have hm0 : m = 0 := by
    rcases Nat.eq_zero_or_pos m with h | h
    · exact h
    · have h1 := hlo 0 h
      have hl : 0 < L.length := by omega
      have h2 := hp L[0].i (List.mem_map_of_mem (List.getElem_mem hl))
      have : idxE L 0 = L[0].i := by unfold idxE; rw [List.getElem?_eq_getElem hl]; rfl
      omega
  subst hm0
  have hL : listE L 0 (min (1000 : Int).toNat (L.length - 0)) = L := by
    unfold listE
    rw [List.drop_zero, List.take_of_length_le (by have : (1000 : Int).toNat = 1000 := rfl; omega)]
  rw [hL] at hsm
  exact ⟨A', c', M, he, hsm, hrow.rd, hb⟩
end Go.Proofs.Ytgcfofnlgdfmoaa
/- Layer 8: SpoolBases: what the turned contents are. -/
namespace Go.Proofs.Ytgcfofnlgdfmoaa
open Go.RowKit

/-- the turned contents: the quota, the Base in its block, its row, its items right; all as it was where nothing is turned -/
structure Turned (w0 w : World) (g : Nat) (six : Prop) (q : Nat) (X : Sp) (A : Option Addr) (n c : Nat) (M : List Ett) : Prop where
  q0 : 64 ≤ q
  q1 : q ≤ 65536
  bs : BsAt w g X (.slice A n c)
  len : n = M.length
  few : n ≤ 1000
  rd : RdM8 w A M
  ok : ∀ e ∈ M, itemN e.x = 0
  of_ : six → OfOk q X M
  bl : Below w0.heap.size w0 w
/-- the contents ahead of that -/
structure Bas (w0 w : World) (g base : Nat) (X : Sp) (A : Option Addr) (n c : Nat) (M : List Ett) : Prop where
  bs : BsAt w g X (.slice A n c)
  row : RowE w base (.slice A n c) M
  len : n = M.length
  few : n ≤ 1000
  gr : ∀ k, (Value.slice A n c).ownBlock = some k → k ≠ g
  lg : ∀ e ∈ M, ∀ a, e.A = some a → 0 < e.x.l.length → a.block < g
  gw : w0.heap.size ≤ g
  bw : w0.heap.size ≤ base
  ok : ∀ e ∈ M, itemN e.x = 0
  bl : Below w0.heap.size w0 w
section
variable {w0 w w' : World} {g base n c : Nat} {X X' : Sp} {A : Option Addr} {M : List Ett} {six : Prop} {q : Nat}
theorem Bas.own (h : Bas w0 w g base X A n c M) : w.ownsRow base 68 14 (.slice A n c) n (cellsE M) := by
  have := h.row.own
  rwa [← h.len] at this
theorem Bas.rdm (h : Bas w0 w g base X A n c M) : RdM8 w A M := by
  have h1 := h.own
  have hl := h.len
  subst hl
  exact own_rdE h1 (fun e he => (h.row.ok e he).free)
theorem Bas.same (h : Bas w0 w g base X A n c M) (h0 : 64 ≤ q) (h1 : q ≤ 65536) (ho : six → OfOk q X M) : Turned w0 w g six q X A n c M :=
  ⟨h0, h1, h.bs, h.len, h.few, h.rdm, h.ok, ho, h.bl⟩
theorem below_only {T : Nat → Prop} (hb : Below w0.heap.size w0 w) (ho : Only T w w') (hT : ∀ k, T k → w0.heap.size ≤ k) : Below w0.heap.size w0 w' :=
  hb.trans ⟨ho.os, ho.tape, ho.output, ho.size, fun k hk => ho.block k (Nat.lt_of_lt_of_le hk hb.size) (fun hk2 => by have := hT k hk2; omega)⟩
theorem Bas.rowBlk (h : Bas w0 w g base X A n c M) : ∀ a, A = some a → 0 < M.length → (Value.slice A n c).ownBlock = some a.block := fun a ha _ => by rw [ha]; rfl
/-- a cell of the Base is written -/
theorem Bas.cell (h : Bas w0 w g base X A n c M) (k : Nat) (u : Value) (hB : ∀ cs, BsV cs X (.slice A n c) → BsV (cs.set k u) X' (.slice A n c)) (h0 : 64 ≤ q) (h1 : q ≤ 65536) (hs : ¬ six) : Turned w0 (w.setCell ⟨g, k, none⟩ u) g six q X' A n c M := by
  have ho : Only (fun i => i = g) w (w.setCell ⟨g, k, none⟩ u) := Only.setCell _ _ _ rfl
  exact ⟨h0, h1, h.bs.set hB, h.len, h.few, h.rdm.only ho (fun a ha hl e => h.gr _ (h.rowBlk a ha hl) e) (fun e he a ha hl e' => by have h2 := h.lg e he a ha hl; have e' : a.block = g := e'; omega), h.ok, fun h => absurd h hs,
    below_only h.bl ho (fun k hk => by have hk : k = g := hk; rw [hk]; exact h.gw)⟩
/-- an entry's index is written -/
theorem Bas.index {b k v : Nat} {e : Ett} (h : Bas w0 w g base X A n c M) (hA : A = some ⟨b, 0, none⟩) (he : M[k]? = some e) (hv : v < 18446744073709551616) (h0 : 64 ≤ q) (h1 : q ≤ 65536) (hs : ¬ six) :
    Turned w0 (w.setCell ⟨b, k * 14, none⟩ (.int .u64 v)) g six q X A n c (M.set k { e with i := v }) := by
  have hkl := (List.getElem?_eq_some_iff.1 he).1
  have ho : Only (fun i => i = b) w (w.setCell ⟨b, k * 14, none⟩ (.int .u64 v)) := Only.setCell _ _ _ rfl
  have hob : (Value.slice A n c).ownBlock = some b := by rw [hA]; rfl
  have hbb := h.own.lt b hob
  have hgb : b ≠ g := h.gr b hob
  have hap : ∀ x ∈ M, ∀ a, x.A = some a → 0 < x.x.l.length → ¬ a.block = b := fun x hx a ha hl e' => (h.row.ok x hx).ap a ha hl (by show (Value.slice A n c).ownBlock = some a.block; rw [hob, e'])
  refine ⟨h0, h1, h.bs.as (ho.block g h.bs.lt (fun e => hgb e.symm)), by rw [List.length_set]; exact h.len, h.few, ⟨fun hl => ?_, fun x hx => ?_⟩, fun x hx => ?_, fun h => absurd h hs, below_only h.bl ho (fun i hi => by have hi : i = b := hi; have := h.bw; omega)⟩
  · have hrd := h.rdm
    obtain ⟨b', o, e1, hb', hc⟩ := hrd.rd (by omega)
    rw [hA] at e1
    injection e1 with e1
    injection e1 with e2 e3 _
    subst e2
    subst e3
    refine ⟨b, 0, hA, Nat.lt_of_lt_of_le hb' ho.size, fun j x hx => ?_⟩
    have hsome : (w.cell? ⟨b, k * 14, none⟩).isSome = true := by
      have := (hc k e he).1 0 _ rfl
      rw [Nat.zero_add, Nat.add_zero] at this
      rw [this]; rfl
    have hoff : ∀ p, p ≠ k * 14 → (w.setCell ⟨b, k * 14, none⟩ (.int .u64 v)).cell? ⟨b, p, none⟩ = w.cell? ⟨b, p, none⟩ := fun p hp => World.cell?_setCells_out b [Value.int .u64 (v : Int)] (k * 14) w ⟨b, p, none⟩ (fun _ _ => by show p < k * 14 ∨ k * 14 + 1 ≤ p; omega)
    have hset : (w.setCell ⟨b, k * 14, none⟩ (.int .u64 v)).cell? ⟨b, k * 14, none⟩ = some (.int .u64 v) := by
      have := World.rangeAt_setCells_same w b (k * 14) [Value.int .u64 (v : Int)] (fun i hi => by
        have hi0 : i = 0 := by simp at hi; omega
        subst hi0
        refine ⟨hsome, ?_⟩
        have h3 := h.own
        rw [hA] at h3
        exact World.ownsRow.frozenAt h3 _)
      exact this 0 _ rfl
    by_cases hjk : j = k
    · subst hjk
      rw [List.getElem?_set_self hkl] at hx
      injection hx with hx
      subst hx
      obtain ⟨q1, q2⟩ := hc j e he
      refine ⟨fun i u hu => ?_, fun i u hu => ?_⟩
      · cases i with
        | zero =>
          have hu : some (Value.int .u64 (v : Int)) = some u := hu
          rw [Nat.zero_add, Nat.add_zero, hset]
          exact hu
        | succ i =>
          rw [hoff _ (by omega)]
          exact q1 (i + 1) u hu
      · rw [hoff _ (by omega)]
        exact q2 i u hu
    · rw [List.getElem?_set_ne (fun h => hjk h.symm)] at hx
      obtain ⟨q1, q2⟩ := hc j x hx
      refine ⟨fun i u hu => ?_, fun i u hu => ?_⟩
      · have hi : i < 14 := by have := (List.getElem?_eq_some_iff.1 hu).1; rwa [entC_length] at this
        rw [hoff _ (by omega)]
        exact q1 i u hu
      · have hi : i < 13 := by have := (List.getElem?_eq_some_iff.1 hu).1; exact this
        rw [hoff _ (by omega)]
        exact q2 i u hu
  · rcases List.mem_or_eq_of_mem_set hx with hx | rfl
    · exact (h.row.ok x hx).free.only ho (fun a ha hl => hap x hx a ha hl) (fun _ h => .inl h)
    · have hem := List.mem_of_getElem? he
      have h2 := (h.row.ok e hem).free.only ho (fun a ha hl => hap e hem a ha hl) (fun _ h => .inl h)
      exact ⟨h2.ok, h2.sh, h2.ln, h2.lb, hv, h2.nil, h2.rd, h2.ap⟩
  · rcases List.mem_or_eq_of_mem_set hx with hx | rfl
    · exact h.ok x hx
    · exact h.ok e (List.mem_of_getElem? he)
end
end Go.Proofs.Ytgcfofnlgdfmoaa
