/- Several texts in one: StRt, StFu, StR4, StNm, StFi, StLg, StOk, JlSpoil, JlCrash. -/
import Derived.Test.YtholdcgkhicdmaaGreatDoorZt43
namespace Go.Proofs.YtholdcgkhicdmaaGreatDoor
open Go.RowKit
theorem takeR_itemB {x : It} (hx : OkI x) (h : itemN x = 0) (hn : normI x = x) (rest : List Nat) : takeR (itemB x ++ rest, 0) = (x, (rest, 0)) := by
  have h1 := takeR_p hx h rest
  rw [hn] at h1
  exact h1
theorem rU_back {n : Nat} (h : n < 18446744073709551616) (rest : List Nat) : rU (leb n ++ rest, 0) = (n, (rest, 0)) := rU_p h rest
theorem endE_ok : endE (([] : List Nat), 0) = 0 := rfl
theorem rep1_back {self : Nat} {a : Ab} {x : It} (hx : OkI x) (h : itemN x = 0) (hn : normI x = x) (h0 : (putV a.X a.K x).1 = 0) : rep1 self a (itemB x) = some (putA self a x) := by
  have h1 := takeR_itemB hx h hn []
  rw [List.append_nil] at h1
  unfold rep1
  rw [h1, if_pos ⟨rfl, h0⟩]
theorem rep2_back {a : Ab} {N : Nat} (hN : N < 18446744073709551616) (h0 : ackE a.X N = 0) : rep2 a (leb N) = some (ackA a N) := by
  have h1 := rU_back hN []
  rw [List.append_nil] at h1
  unfold rep2
  rw [h1, if_pos ⟨rfl, h0⟩]
theorem rep3_back {a : Ab} {m : Nat} (hm : m < 18446744073709551616) : rep3 a (leb m) = some { a with m := m } := by
  have h1 := rU_back hm []
  rw [List.append_nil] at h1
  unfold rep3
  rw [h1]
  exact if_pos endE_ok
theorem hisL_back {h : Nat → Nat} (hh : ∀ i, i < 32 → h i < 18446744073709551616) : ∀ (k : Nat) (rest : List Nat), k ≤ 32 → nR k (hisB h k ++ rest, 0) = ((List.range k).map h, (rest, 0))
  | 0, rest, _ => rfl
  | k + 1, rest, hk => by
    have ih := hisL_back hh k (leb (h k) ++ rest) (by omega)
    have e : hisB h (k + 1) ++ rest = hisB h k ++ (leb (h k) ++ rest) := by
      show (hisB h k ++ leb (h k)) ++ rest = _
      rw [List.append_assoc]
    rw [e]
    show ((nR k (hisB h k ++ (leb (h k) ++ rest), 0)).1 ++ [(rU (nR k (hisB h k ++ (leb (h k) ++ rest), 0)).2).1], (rU (nR k (hisB h k ++ (leb (h k) ++ rest), 0)).2).2) = _
    rw [ih, rU_back (hh k (by omega)), List.range_succ, List.map_append]
    rfl
def EntR (e : Ett) : Prop := OkI e.x ∧ itemN e.x = 0 ∧ normI e.x = e.x ∧ e.i < 18446744073709551616
theorem entsR_back : ∀ (K acc : List Ett) (rest : List Nat), (∀ e ∈ K, EntR e) → entsR K.length acc (entsB K ++ rest, 0) = (acc ++ ers K, (rest, 0))
  | [], acc, rest, _ => by
    show (acc, (rest, 0)) = _
    rw [show ers [] = [] from rfl, List.append_nil]
  | e :: K, acc, rest, h => by
    obtain ⟨h1, h2, h3, h4⟩ := h e (List.mem_cons_self ..)
    have e0 : entsB (e :: K) ++ rest = leb e.i ++ (itemB e.x ++ (entsB K ++ rest)) := by
      have : entsB (e :: K) = leb e.i ++ itemB e.x ++ entsB K := by simp [entsB]
      rw [this]
      simp only [List.append_assoc]
    rw [e0, List.length_cons, entsR_step rfl, rU_back h4, takeR_itemB h1 h2 h3]
    have ih := entsR_back K (acc ++ [⟨e.i, e.x, none, 0⟩]) rest (fun e' he' => h e' (List.mem_cons_of_mem _ he'))
    refine ih.trans ?_
    rw [show ers (e :: K) = ⟨e.i, e.x, none, 0⟩ :: ers K from rfl, List.append_assoc]
    rfl
theorem firR_back : ∀ (F acc : List It) (rest : List Nat), (∀ x ∈ F, OkI x ∧ itemN x = 0 ∧ normI x = x ∧ x.g = false ∧ x.s = 2) → firR F.length acc (firesB F ++ rest, 0) = (acc ++ F, (rest, 0))
  | [], acc, rest, _ => by
    show (acc, (rest, 0)) = _
    rw [List.append_nil]
  | x :: F, acc, rest, h => by
    obtain ⟨h1, h2, h3, h4, h5⟩ := h x (List.mem_cons_self ..)
    have e0 : firesB (x :: F) ++ rest = itemB x ++ (firesB F ++ rest) := by
      have : firesB (x :: F) = itemB x ++ firesB F := by simp [firesB]
      rw [this, List.append_assoc]
    rw [e0, List.length_cons, firR_step rfl, takeR_itemB h1 h2 h3, if_neg (fun hb => hb.elim (fun hg => by rw [h4] at hg; cases hg) (fun hs => hs h5))]
    have ih := firR_back F (acc ++ [x]) rest (fun y hy => h y (List.mem_cons_of_mem _ hy))
    refine ih.trans ?_
    rw [List.append_assoc]
    rfl
theorem sn_back {X : Sp} {K : List Ett} {F : List It} {m : Nat} (hn : X.n < 18446744073709551616) (ha : X.a < 18446744073709551616) (hv : X.v < 18446744073709551616) (hh : ∀ i, i < 32 → X.h i < 18446744073709551616) (hm : m < 18446744073709551616) (hK : ∀ e ∈ K, EntR e) (hF : ∀ x ∈ F, OkI x ∧ itemN x = 0 ∧ normI x = x ∧ x.g = false ∧ x.s = 2) (hKl : K.length < 18446744073709551616) (hFl : F.length < 18446744073709551616) :
    (sn1 (snapB m X K F)).1 = m ∧ (sn2 (snapB m X K F)).1 = ers K ∧ sn3 (snapB m X K F) = (F, ([], 0)) ∧ ∀ k, k ≤ 32 → k = 32 → bsX k (sn1 (snapB m X K F)).2 = ⟨0, X.n, X.a, X.v, fun i => ((List.range k).map X.h).getD i 0⟩ := by
  obtain ⟨R, hR⟩ : ∃ z, z = leb F.length ++ firesB F := ⟨_, rfl⟩
  have e1 : sn1 (snapB m X K F) = (m, (baseB X K ++ R, 0)) := by
    unfold sn1 snapB
    rw [hR]
    have h1 := rU_back hm (baseB X K ++ (leb F.length ++ firesB F))
    simp only [List.append_assoc] at h1 ⊢
    exact h1
  obtain ⟨H, hH⟩ : ∃ z, z = hisB X.h 32 := ⟨_, rfl⟩
  have e2 : baseB X K ++ R = leb X.n ++ (leb X.a ++ (leb X.v ++ (H ++ (leb K.length ++ (entsB K ++ R))))) := by
    unfold baseB
    rw [← hH]
    simp only [List.append_assoc]
  obtain ⟨s, hs⟩ : ∃ s : St, s = (leb X.n ++ (leb X.a ++ (leb X.v ++ (H ++ (leb K.length ++ (entsB K ++ R))))), 0) := ⟨_, rfl⟩
  rw [e2, ← hs] at e1
  have b1 : bsN s = (X.n, (leb X.a ++ (leb X.v ++ (H ++ (leb K.length ++ (entsB K ++ R)))), 0)) := by unfold bsN; rw [hs]; exact rU_back hn _
  have b2 : bsA s = (X.a, (leb X.v ++ (H ++ (leb K.length ++ (entsB K ++ R))), 0)) := by unfold bsA; rw [b1]; exact rU_back ha _
  have b3 : bsV s = (X.v, (H ++ (leb K.length ++ (entsB K ++ R)), 0)) := by unfold bsV; rw [b2]; exact rU_back hv _
  have b4 : ∀ k, k ≤ 32 → H = hisB X.h k → bsH k s = ((List.range k).map X.h, (leb K.length ++ (entsB K ++ R), 0)) := fun k hk hHk => by
    unfold bsH
    rw [b3, hHk]
    exact hisL_back hh k _ hk
  have b5 : bsC s = (K.length, (entsB K ++ R, 0)) := by
    unfold bsC
    rw [b4 32 (Nat.le_refl _) hH]
    exact rU_back hKl _
  have b6 : baseR s = (ers K, (R, 0)) := by
    unfold baseR
    rw [b5]
    exact entsR_back K [] R hK
  have e3 : sn2 (snapB m X K F) = (ers K, (R, 0)) := by
    unfold sn2
    rw [e1]
    exact b6
  have b7 : fsC (R, 0) = (F.length, (firesB F, 0)) := by
    unfold fsC
    rw [hR]
    exact rU_back hFl _
  have b8 : firesR (R, 0) = (F, ([], 0)) := by
    unfold firesR
    rw [b7]
    have h1 := firR_back F [] [] hF
    rw [List.append_nil] at h1
    exact h1
  have e4 : sn3 (snapB m X K F) = (F, ([], 0)) := by
    unfold sn3
    rw [e3]
    exact b8
  refine ⟨by rw [e1], by rw [e3], e4, fun k hk hk2 => ?_⟩
  rw [e1]
  have hHk : H = hisB X.h k := by rw [hk2]; exact hH
  unfold bsX
  rw [b1, b2, b3, b4 k hk hHk]
theorem chk_any9 {n : Nat} {h : Nat → Nat} : ∀ {L : List Ett} {b : Nat} {E F : Nat → Nat}, (∀ o, ∃ m, chainO o L (F o) = some m) → (∀ o, E o = 0 ∨ E o = F o) → (idxL L).Pairwise (· < ·) → (∀ i ∈ idxL L, b < i ∧ i < n) → (∀ e ∈ L, spT e.x ≤ h (spO e.x)) → ∃ b' E', chkL n h L b E = some (b', E') ∧ ∀ o, E' o = 0 ∨ chainO o L (F o) = some (E' o)
  | [], b, E, F, _, hE, _, _, _ => ⟨b, E, rfl, fun o => (hE o).imp id (fun e => by rw [e]; rfl)⟩
  | e :: L, b, E, F, hc, hE, hp, hi, ht => by
    have hp' : (e.i :: idxL L).Pairwise (· < ·) := hp
    rw [List.pairwise_cons] at hp'
    have hie := hi e.i List.mem_cons_self
    have hf : spF e.x = F (spO e.x) + 1 := by
      obtain ⟨m, hm⟩ := hc (spO e.x)
      unfold chainO at hm
      rw [if_pos rfl] at hm
      split at hm
      · assumption
      · cases hm
    have hk : ChkE n h b E e := ⟨hie.1, hie.2, (hE (spO e.x)).imp id (fun e1 => by rw [e1]; exact hf), ht e List.mem_cons_self⟩
    have e0 : chkL n h (e :: L) b E = chkL n h L e.i (upT E e.x) := by
      show (if _ then _ else _) = _
      rw [if_pos hk]
    have hch : ∀ o, chainO o (e :: L) (F o) = chainO o L (upT F e.x o) := fun o => by
      conv => lhs; unfold chainO
      unfold upT
      by_cases ho : spO e.x = o
      · rw [if_pos ho, ← ho, if_pos hf]
        simp
      · rw [if_neg ho]
        simp [Ne.symm ho]
    obtain ⟨b', E', h1, h2⟩ := chk_any9 (L := L) (b := e.i) (E := upT E e.x) (F := upT F e.x) (fun o => by
      obtain ⟨m, hm⟩ := hc o
      rw [hch o] at hm
      exact ⟨m, hm⟩) (fun o => by
      unfold upT
      split
      · exact .inr rfl
      · exact hE o) hp'.2 (fun i hi2 => ⟨hp'.1 i hi2, (hi i (List.mem_cons_of_mem _ hi2)).2⟩) (fun x hx => ht x (List.mem_cons_of_mem _ hx))
    exact ⟨b', E', by rw [e0]; exact h1, fun o => (h2 o).imp id (fun h3 => by rw [hch o]; exact h3)⟩
theorem itemB_one (x : It) : 1 ≤ (itemB x).length := by
  unfold itemB
  split <;> simp
theorem len_sum : ∀ L : List Ett, L.length ≤ sumE L
  | [] => Nat.le_refl _
  | e :: L => by
    have ih := len_sum L
    have h1 := itemB_one e.x
    rw [sumE_cons, List.length_cons]
    omega
structure Fc (X : Sp) (K : List Ett) (k : Nat) : Prop where
  ok : SpOk X K k
  cov : ∃ F, Cov F X.h K
  sum : sumE K ≤ X.q
  hi : ∀ i, 32 ≤ i → X.h i = 0
theorem Fc.of {X : Sp} {K : List Ett} {k : Nat} (h : Fc X K k) (hk : k ≤ 1000000) : OfOk X.q X K := by
  obtain ⟨F, hc⟩ := h.cov
  obtain ⟨b, E, h1, h2⟩ := chk_any9 (n := X.n) (h := X.h) (L := K) (b := X.a) (E := fun _ => 0) (F := F) (fun o => ⟨_, hc.ch o⟩) (fun _ => .inl rfl) h.ok.rise h.ok.ix (fun e he => (hc.ok e he).2)
  have hl := len_sum K
  have hs := h.sum
  refine ⟨⟨by have := h.ok.n1; omega, by have := h.ok.nk; omega, h.ok.an, by omega⟩, ⟨b, E, h1, fun o _ => ⟨(h2 o).imp id (fun h3 => ?_), h.ok.hs o⟩⟩, h.sum⟩
  rw [hc.ch o] at h3
  exact (Option.some.inj h3).symm
theorem Fc.new (q : Nat) : Fc ⟨q, 1, 0, 0, fun _ => 0⟩ [] 0 := ⟨SpOk.new q, ⟨fun _ => 0, ⟨fun _ => rfl, fun e he => by cases he⟩⟩, Nat.zero_le _, fun _ _ => rfl⟩
theorem putR_high {X : Sp} {L : List Ett} (h : ∀ i, 32 ≤ i → X.h i = 0) (x : It) (A : Option Addr) (c : Nat) : ∀ i, 32 ≤ i → (putR X L x A c).2.2.2.1.h i = 0 := by
  intro i hi
  unfold putR
  by_cases h0 : partE x X.h = 0
  · rw [if_neg (fun hne => hne h0)]
    have hn : itemN x = 0 := by
      unfold partE at h0
      split at h0
      · rename_i hne; exact absurd h0 hne
      · rename_i hne; exact Classical.byContradiction hne
    simp only
    split
    · exact h i hi
    · split
      · exact h i hi
      · have hso := itemN_spO hn
        show upH X.h (spO (partI x X.h)) (spT (partI x X.h)) i = 0
        rw [(part_right h0).2.1]
        unfold upH
        rw [if_neg (by omega)]
        exact h i hi
  · rw [if_pos h0]
    exact h i hi
theorem Fc.put {X : Sp} {K : List Ett} {k : Nat} (h : Fc X K k) (x : It) : Fc (putV X K x).2.2.2.1 (putV X K x).2.2.2.2 (k + 1) := by
  obtain ⟨F, hc⟩ := h.cov
  refine ⟨h.ok.put x none 0, ⟨F, hc.put x none 0⟩, ?_, putR_high h.hi x none 0⟩
  unfold putV
  rw [putR_q]
  exact sum_put h.sum x none 0
theorem Fc.ack {X : Sp} {K : List Ett} {k N : Nat} (h : Fc X K k) (h0 : ackE X N = 0) : Fc (ackX X N) (ackK X K N) k := by
  obtain ⟨F, hc⟩ := h.cov
  obtain ⟨h1, h2⟩ := ack_yes h0 K
  have hN : N < X.n := by
    unfold ackE at h0
    split at h0
    · cases h0
    · omega
  obtain ⟨m, hm⟩ := CutAt.ex h.ok.riseE N
  have hab := above_drop hm
  have hdr : cutE K 0 m = K.drop m := cutE_zero K m
  rw [h1, h2, ← hab]
  refine ⟨h.ok.acked hN hm, ⟨_, by rw [hdr]; exact hc.drop m⟩, ?_, h.hi⟩
  have h3 := sumE_cut (L := K) (Nat.zero_le m)
  have := h.sum
  show sumE (cutE K 0 m) ≤ X.q
  omega
theorem OfOk.withQ {q q' : Nat} {X : Sp} {L : List Ett} (h : OfOk q X L) : OfOk q { X with q := q' } L := by
  obtain ⟨⟨h1, h2, h3, h4⟩, ⟨b, E, h5, h6⟩, h7⟩ := h
  exact ⟨⟨h1, h2, h3, h4⟩, ⟨b, E, h5, fun o ho => ⟨(h6 o ho).e, (h6 o ho).m⟩⟩, h7⟩
theorem range_high {h : Nat → Nat} {k : Nat} (hh : ∀ i, k ≤ i → h i = 0) : (fun i => ((List.range k).map h).getD i 0) = h := by
  funext i
  rw [List.getD_eq_getElem?_getD, List.getElem?_map]
  by_cases hi : i < k
  · rw [List.getElem?_range hi]
    rfl
  · rw [List.getElem?_eq_none (by rw [List.length_range]; omega), hh i (by omega)]
    rfl
theorem rep4_back {self gen : Nat} {a : Ab} {X : Sp} {K : List Ett} {F : List It} {m k : Nat} (h : Fc X K k) (hk : k ≤ 1000000) (hq : a.X.q = X.q) (hv : X.v < 18446744073709551616) (hm : m < 18446744073709551616) (hK : ∀ e ∈ K, EntR e)
    (hF : ∀ x ∈ F, OkI x ∧ itemN x = 0 ∧ normI x = x ∧ x.g = false ∧ x.s = 2) (hFl : F.length < 18446744073709551616) (hFn : noteAll self [] F = F) :
    rep4 self gen a (snapB m X K F) = some ⟨X, ers K, F, m, if 0 < gen then (snapB m X K F).length + 9 else a.f⟩ := by
  have hn : X.n < 18446744073709551616 := by have := h.ok.nk; omega
  have ha : X.a < 18446744073709551616 := by have := h.ok.an; omega
  obtain ⟨e1, e2, e3, e4⟩ := sn_back (X := X) (K := K) (F := F) (m := m) hn ha hv (fun i _ => by have := h.ok.hs i; omega) hm hK hF (by have := h.ok.len; omega) hFl
  have e5 : bsX 32 (sn1 (snapB m X K F)).2 = { X with q := 0 } := by
    have key : ∀ k, k ≤ 32 → k = 32 → bsX k (sn1 (snapB m X K F)).2 = { X with q := 0 } := fun k hk1 hk2 => by
      rw [e4 k hk1 hk2, range_high (fun i hi => h.hi i (by omega))]
    exact key 32 (Nat.le_refl _) rfl
  have hof : OfOk a.X.q (bsX 32 (sn1 (snapB m X K F)).2) (sn2 (snapB m X K F)).1 := by
    rw [e5, e2, hq]
    exact OfOk.ers.2 (h.of hk).withQ
  have h3 : endE (sn3 (snapB m X K F)).2 = 0 := by rw [e3]; rfl
  unfold rep4
  rw [if_pos ⟨h3, hof⟩, e1, e2, e3, e5, hFn, hq]
theorem repA_snap {self gen : Nat} {a : Ab} {X : Sp} {K : List Ett} {F : List It} {m k : Nat} (h : Fc X K k) (hk : k ≤ 1000000) (hq : a.X.q = X.q) (hv : X.v < 18446744073709551616) (hm : m < 18446744073709551616) (hK : ∀ e ∈ K, EntR e)
    (hF : ∀ x ∈ F, OkI x ∧ itemN x = 0 ∧ normI x = x ∧ x.g = false ∧ x.s = 2) (hFl : F.length < 18446744073709551616) (hFn : noteAll self [] F = F) :
    repA self gen a (4 :: snapB m X K F) = some ⟨X, ers K, F, m, if 0 < gen then (snapB m X K F).length + 9 else a.f⟩ := by
  rw [repA_4]
  exact rep4_back h hk hq hv hm hK hF hFl hFn
def Nm (x : It) : Prop := OkI x ∧ normI x = x ∧ ShortI x ∧ x.l.length ≤ 1000
def NmL (L : List Ett) : Prop := ∀ e ∈ L, Nm e.x
theorem nm_gap {a f t : Nat} (ha : a < 256) (hf : f < 18446744073709551616) (ht : t < 18446744073709551616) : Nm ⟨true, 0, 0, 0, ⟨#[]⟩, [], 0, 0, 0, 0, a, f, t⟩ := ⟨gapI_ok ha hf ht, rfl, ⟨(Nat.zero_le 1048576 : 0 ≤ 1048576), fun i p hp => by simp at hp⟩, Nat.zero_le 1000⟩
theorem nm_zero : Nm zeroI := ⟨zeroI_ok, rfl, ⟨(Nat.zero_le 1048576 : 0 ≤ 1048576), fun i p hp => by simp [zeroI] at hp⟩, Nat.zero_le 1000⟩
theorem nm_join {x y : It} (hx : Nm x) (hy : Nm y) : Nm (joinI x y) := by
  unfold joinI
  split
  · exact nm_gap hx.1.ga hx.1.gf hy.1.gt
  · exact nm_zero
theorem nm_getD {L : List Ett} (h : NmL L) (k : Nat) : Nm (L.getD k entD).x := by
  rw [List.getD_eq_getElem?_getD]
  cases hk : L[k]? with
  | none => exact nm_zero
  | some e => exact h e (List.mem_of_getElem? hk)
theorem nm_joinK {L : List Ett} (h : NmL L) (a b : Option Nat) : NmL (joinK L a b).1 := fun e he => by
  cases a with
  | none => exact h e he
  | some a =>
    cases b with
    | none => exact h e he
    | some b =>
      unfold joinK at he
      simp only at he
      split at he
      · have h1 := cutE_mem he
        rcases List.mem_or_eq_of_mem_set h1 with h2 | rfl
        · exact h e h2
        · exact nm_join (nm_getD h _) (nm_getD h _)
      · exact h e he
theorem nm_span {x : It} (h : Nm x) : spO x < 256 ∧ spF x < 18446744073709551616 ∧ spT x < 18446744073709551616 := by
  unfold spO spF spT
  split
  · exact ⟨h.1.ga, h.1.gf, h.1.gt⟩
  · exact ⟨h.1.o, h.1.q, h.1.q⟩
theorem nm_evL {L : List Ett} (h : NmL L) {p : Nat} {e0 : Ett} (h0 : Nm e0.x) : NmL (evL L p e0) := by
  refine nm_joinK (nm_joinK (fun e he => ?_) _ _) _ _
  rcases List.mem_or_eq_of_mem_set he with h1 | rfl
  · exact h e h1
  · obtain ⟨a, b, c⟩ := nm_span h0
    exact nm_gap a b c
theorem nm_room {size q : Nat} : ∀ {fuel : Nat} {L : List Ett} {f v : Nat}, NmL L → NmL (roomK size q fuel L f v).2.1
  | fuel, L, f, v, h => by
    by_cases hf : sumE L + size ≤ q
    · rw [roomK_fit hf]; exact h
    · cases hl : leastK L L.length with
      | none => rw [roomK_none hf hl]; exact h
      | some p =>
        cases fuel with
        | zero =>
          unfold roomK
          rw [if_neg hf]
          exact h
        | succ k =>
          rw [roomK_some hf hl]
          exact nm_room (nm_evL h (nm_getD h p))
theorem nm_addJ {L : List Ett} (h : NmL L) {e0 : Ett} (h0 : Nm e0.x) : NmL (addJ L e0).1 := by
  have h1 : NmL (L ++ [e0]) := fun e he => by
    rcases List.mem_append.1 he with h2 | h2
    · exact h e h2
    · rw [List.mem_singleton] at h2; rw [h2]; exact h0
  unfold addJ
  split
  · exact nm_joinK h1 _ _
  · exact h1
theorem nm_part {x : It} (h : Nm x) {H : Nat → Nat} (hH : H (spO x) ≤ 1099511627776) : Nm (partI x H) := by
  unfold partI
  split
  · unfold trimI
    split
    · exact nm_zero
    · split
      · exact h
      · obtain ⟨a, b, c⟩ := nm_span h
        exact nm_gap a (by omega) c
  · exact nm_zero
theorem nm_putV {X : Sp} {K : List Ett} {x : It} (h : NmL K) (hx : Nm x) (hH : ∀ i, X.h i ≤ 1099511627776) : NmL (putV X K x).2.2.2.2 := by
  unfold putV putR
  split
  · exact h
  · simp only
    split
    · exact h
    · split
      · exact h
      · exact nm_addJ (nm_room h) (nm_part hx (hH _))
theorem nm_ack {X : Sp} {K : List Ett} {N : Nat} (h : NmL K) : NmL (ackK X K N) := fun e he => h e (ackK_mem he)
theorem Fc.entR {X : Sp} {K : List Ett} {k : Nat} (h : Fc X K k) (hk : k ≤ 1000000) (hn : NmL K) : ∀ e ∈ K, EntR e := fun e he => by
  obtain ⟨F, hc⟩ := h.cov
  have h1 := h.ok.ix e.i (List.mem_map_of_mem (f := fun e : Ett => e.i) he)
  have h2 := h.ok.nk
  exact ⟨(hn e he).1, (hc.ok e he).1, (hn e he).2.1, by omega⟩
structure Fi (me : Nat) (F : List It) : Prop where
  each : ∀ x ∈ F, Nm x ∧ itemN x = 0 ∧ x.g = false ∧ x.o = me ∧ x.s = 2
  apart : F.Pairwise fun y x => alertB y x = false
theorem Fi.nil (self : Nat) : Fi self [] := ⟨fun x hx => (by cases hx), List.Pairwise.nil⟩
theorem evI_norm {x : It} (hn : normI x = x) (hg : x.g = false) : evI x = x := by
  unfold normI at hn
  rw [hg, if_neg (by decide)] at hn
  exact hn
theorem Fi.note {self : Nat} {F : List It} {x : It} (h : Fi self F) (hx : Nm x) (h0 : itemN x = 0) : Fi self (noteF self F x) := by
  unfold noteF
  split
  · exact h
  · rename_i hc
    have hg : x.g = false := by
      cases hg : x.g with
      | false => rfl
      | true => exact absurd (.inl hg) hc
    have ho : x.o = self := Classical.byContradiction fun hne => hc (.inr hne)
    split
    · rename_i hs
      rw [evI_norm hx.2.1 hg]
      refine ⟨fun y hy => ?_, ?_⟩
      · rcases List.mem_append.1 hy with h1 | h1
        · exact h.each y (List.mem_filter.1 h1).1
        · rw [List.mem_singleton] at h1
          rw [h1]
          exact ⟨hx, h0, hg, ho, hs⟩
      · rw [List.pairwise_append]
        refine ⟨h.apart.filter _, List.pairwise_singleton _ _, fun y hy z hz => ?_⟩
        rw [List.mem_singleton] at hz
        rw [hz]
        have h1 := (List.mem_filter.1 hy).2
        simpa using h1
    · rw [List.append_nil]
      exact ⟨fun y hy => h.each y (List.mem_filter.1 hy).1, h.apart.filter _⟩
theorem Fi.all {self : Nat} {F : List It} (h : Fi self F) : noteAll self [] F = F := by
  have key : ∀ k, k ≤ F.length → noteAll self [] (F.take k) = F.take k := by
    intro k
    induction k with
    | zero => intro _; rfl
    | succ k ih =>
      intro hk
      obtain ⟨x, hx⟩ : ∃ x, F[k]? = some x := ⟨_, List.getElem?_eq_getElem (by omega)⟩
      rw [noteAll_step hx, ih (by omega)]
      obtain ⟨h1, -, h3, h4, h5⟩ := h.each x (List.mem_of_getElem? hx)
      have hap : ∀ y ∈ F.take k, (!alertB y x) = true := fun y hy => by
        have hp : (F.take k ++ [x]).Pairwise fun y x => alertB y x = false := by
          have e : F.take k ++ [x] = F.take (k + 1) := by rw [List.take_add_one, hx]; rfl
          rw [e]
          exact h.apart.sublist (List.take_sublist _ _)
        have := (List.pairwise_append.1 hp).2.2 y hy x (List.mem_singleton_self x)
        rw [this]; rfl
      unfold noteF
      rw [if_neg (fun hc => hc.elim (fun hg => by rw [h3] at hg; cases hg) (fun ho => ho h4)), List.filter_eq_self.2 hap, if_pos h5, evI_norm h1.2.1 h3, List.take_add_one, hx]
      rfl
  have := key F.length (Nat.le_refl _)
  rwa [List.take_length] at this
structure Al (me k : Nat) (a : Ab) : Prop where
  fc : Fc a.X a.K k
  nm : NmL a.K
  fi : Fi me a.F
  fl : a.F.length ≤ k
theorem Al.new (self q : Nat) : Al self 0 ⟨⟨q, 1, 0, 0, fun _ => 0⟩, [], [], 0, 0⟩ := ⟨Fc.new q, fun e he => (by cases he), Fi.nil self, Nat.le_refl _⟩
theorem Al.put {self k : Nat} {a : Ab} (h : Al self k a) {x : It} (hx : Nm x) (h0 : (putV a.X a.K x).1 = 0) : Al self (k + 1) (putA self a x) := by
  have hp : partE x a.X.h = 0 := Classical.byContradiction fun hne => by
    have h1 : (putV a.X a.K x).1 = partE x a.X.h := by unfold putV putR; rw [if_pos hne]
    rw [h1] at h0
    exact hne h0
  have hn : itemN x = 0 := by
    unfold partE at hp
    split at hp
    · rename_i hne; exact absurd hp hne
    · rename_i hne; exact Classical.byContradiction hne
  refine ⟨h.fc.put x, nm_putV h.nm hx h.fc.ok.hs, h.fi.note hx hn, ?_⟩
  have h1 := noteF_len self a.F x
  have h2 := h.fl
  show (noteF self a.F x).length ≤ k + 1
  omega
theorem Al.ack {self k N : Nat} {a : Ab} (h : Al self k a) (h0 : ackE a.X N = 0) : Al self k (ackA a N) := ⟨h.fc.ack h0, nm_ack h.nm, h.fi, h.fl⟩
theorem Al.snap {self k gen : Nat} {a b : Ab} (h : Al self k a) (hk : k ≤ 1000000) (hq : b.X.q = a.X.q) (hm : a.m < 18446744073709551616) :
    repA self gen b (4 :: snapB a.m a.X a.K a.F) = some ⟨a.X, ers a.K, a.F, a.m, if 0 < gen then (snapB a.m a.X a.K a.F).length + 9 else b.f⟩ :=
  repA_snap h.fc hk hq (by have := h.fc.ok.ev; omega) hm (h.fc.entR hk h.nm) (fun x hx => by
    obtain ⟨h1, h2, h3, h4, h5⟩ := h.fi.each x hx
    exact ⟨h1.1, h2, h1.2.1, h3, h5⟩) (by have := h.fl; omega) h.fi.all
theorem repAll_app {self gen : Nat} {a : Ab} (cs : List (List Nat)) (c : List Nat) : repAll self gen a (cs ++ [c]) = (repAll self gen a cs).bind fun b => repA self gen b c := by
  unfold repAll
  rw [List.foldlM_append]
  simp
theorem Fc.more {X : Sp} {K : List Ett} {k j : Nat} (h : Fc X K k) (hj : k ≤ j) : Fc X K j := ⟨h.ok.more hj, h.cov, h.sum, h.hi⟩
theorem Al.more {me k j : Nat} {a : Ab} (h : Al me k a) (hj : k ≤ j) : Al me j a := ⟨h.fc.more hj, h.nm, h.fi, by have := h.fl; omega⟩
theorem Al.re {me k : Nat} {a : Ab} (h : Al me k a) (hk : k ≤ 80000) (h1 : 64 ≤ a.X.q) (h2 : a.X.q ≤ 65536) (r : List Nat) : ReOkA a r :=
  ⟨fun i _ => h.fc.ok.hs i, .inr (by have := h.fc.ok.ev; omega), by have := h.fc.ok.len; omega, by have := h.fl; omega, h.fc.ok.riseE, h1, h2⟩
def a0of (q : Nat) : Ab := ⟨⟨q, 1, 0, 0, fun _ => 0⟩, [], [], 0, 0⟩
structure Lg (me gen q k : Nat) (cs : List (List Nat)) (a : Ab) : Prop where
  al : Al me k a
  rep : repAll me gen (a0of q) cs = some a
  qq : a.X.q = q
  er : ers a.K = a.K
  m : a.m < 18446744073709551616
  ok : OkR cs
  pre : ∀ (j : Nat) b, repAll me gen (a0of q) (cs.take j) = some b → Al me k b ∧ b.X.q = q
section
variable {me gen q k : Nat} {cs : List (List Nat)} {a : Ab}
theorem Lg.new (me gen q : Nat) : Lg me gen q 0 [] (a0of q) :=
  ⟨Al.new me q, rfl, rfl, rfl, (by show 0 < 18446744073709551616; decide), fun c hc => (by cases hc), fun j b hb => by
    rw [List.take_nil] at hb
    rw [← Option.some.inj (show some (a0of q) = some b from hb)]
    exact ⟨Al.new me q, rfl⟩⟩
theorem Lg.app (h : Lg me gen q k cs a) {c : List Nat} {a' : Ab} {k' : Nat} (hk : k ≤ k') (hr : repA me gen a c = some a') (ha : Al me k' a') (hq : a'.X.q = q) (he : ers a'.K = a'.K) (hm : a'.m < 18446744073709551616) (hc : OkB c ∧ c.length ≤ 524288) : Lg me gen q k' (cs ++ [c]) a' := by
  refine ⟨ha, by rw [repAll_app, h.rep]; exact hr, hq, he, hm, fun x hx => ?_, fun j b hb => ?_⟩
  · rcases List.mem_append.1 hx with h1 | h1
    · exact h.ok x h1
    · rw [List.mem_singleton] at h1; rw [h1]; exact hc
  · by_cases hj : j ≤ cs.length
    · rw [List.take_append_of_le_length hj] at hb
      obtain ⟨h1, h2⟩ := h.pre j b hb
      exact ⟨h1.more hk, h2⟩
    · rw [List.take_of_length_le (by rw [List.length_append]; simp; omega), repAll_app, h.rep] at hb
      have e : a' = b := by
        have : repA me gen a c = some b := hb
        rw [hr] at this
        exact Option.some.inj this
      rw [← e]
      exact ⟨ha, hq⟩
theorem ers_addJ (K : List Ett) (X : Sp) (x : It) : ers (putV X (ers K) x).2.2.2.2 = (putV X (ers K) x).2.2.2.2 := by
  rw [putV_of X K x none 0]
  exact ers_ers _
theorem Lg.put (h : Lg me gen q k cs a) {x : It} (hx : Nm x) (h0 : (putV a.X a.K x).1 = 0) (hok : OkB (1 :: itemB x)) (hl : (itemB x).length ≤ 500000) : Lg me gen q (k + 1) (cs ++ [1 :: itemB x]) (putA me a x) := by
  have hp : partE x a.X.h = 0 := Classical.byContradiction fun hne => by
    have h1 : (putV a.X a.K x).1 = partE x a.X.h := by unfold putV putR; rw [if_pos hne]
    rw [h1] at h0
    exact hne h0
  have hn : itemN x = 0 := by
    unfold partE at hp
    split at hp
    · rename_i hne; exact absurd hp hne
    · rename_i hne; exact Classical.byContradiction hne
  refine h.app (Nat.le_succ _) (by rw [repA_1]; exact rep1_back hx.1 hn hx.2.1 h0) (h.al.put hx h0) ?_ ?_ h.m ⟨hok, by rw [List.length_cons]; omega⟩
  · show (putV a.X a.K x).2.2.2.1.q = q
    unfold putV
    rw [putR_q]
    exact h.qq
  · show ers (putV a.X a.K x).2.2.2.2 = (putV a.X a.K x).2.2.2.2
    have := ers_addJ a.K a.X x
    rwa [h.er] at this
theorem Lg.ack (h : Lg me gen q k cs a) {N : Nat} (hN : N < 18446744073709551616) (h0 : ackE a.X N = 0) : Lg me gen q k (cs ++ [2 :: leb N]) (ackA a N) := by
  have hl := leb_le10 hN
  refine h.app (Nat.le_refl _) (by rw [repA_2]; exact rep2_back hN h0) (h.al.ack h0) ?_ ?_ h.m ⟨fun x hx => ?_, by rw [List.length_cons]; omega⟩
  · show (ackX a.X N).q = q
    rw [(ack_yes h0 a.K).1]
    exact h.qq
  · show ers (ackK a.X a.K N) = ackK a.X a.K N
    have := ackK_ers a.X a.K N
    rw [h.er] at this
    exact this.symm
  · rcases List.mem_cons.1 hx with rfl | hx
    · decide
    · exact leb_bytes hN x hx
theorem Lg.life (h : Lg me gen q k cs a) {m : Nat} (hm : m < 18446744073709551616) : Lg me gen q k (cs ++ [3 :: leb m]) { a with m := m } := by
  have hl := leb_le10 hm
  refine h.app (Nat.le_refl _) (by rw [repA_3]; exact rep3_back hm) ⟨h.al.fc, h.al.nm, h.al.fi, h.al.fl⟩ h.qq h.er hm ⟨fun x hx => ?_, by rw [List.length_cons]; omega⟩
  rcases List.mem_cons.1 hx with rfl | hx
  · decide
  · exact leb_bytes hm x hx
theorem Lg.snap (h : Lg me gen q k cs a) (hk : k ≤ 1000000) (hok : OkB (4 :: snapB a.m a.X a.K a.F)) (hl : (snapB a.m a.X a.K a.F).length ≤ 500000) : Lg me (gen + 1) q k [4 :: snapB a.m a.X a.K a.F] { a with f := (snapB a.m a.X a.K a.F).length + 9 } := by
  have h1 := h.al.snap (gen := gen + 1) (b := a0of q) hk (by rw [h.qq]; rfl) h.m
  rw [h.er, if_pos (by omega)] at h1
  have h2 := (Lg.new me (gen + 1) q).app (k' := k) (Nat.zero_le _) h1 ⟨h.al.fc, h.al.nm, h.al.fi, h.al.fl⟩ h.qq h.er h.m ⟨hok, by rw [List.length_cons]; omega⟩
  exact h2
theorem Lg.re (h : Lg me gen q k cs a) (hk : k ≤ 80000) (hq1 : 64 ≤ q) (hq2 : q ≤ 65536) {j c : Nat} {r : List Nat} {b : Ab} (_ : cs[j]? = some (c :: r)) (hb : repAll me gen (a0of q) (cs.take j) = some b) : ReOkA b r := by
  obtain ⟨h1, h2⟩ := h.pre j b hb
  exact h1.re hk (by omega) (by omega) r
end
theorem okB_leb9 {n : Nat} (h : n < 18446744073709551616) : OkB (leb n) := leb_bytes h
theorem okB_one9 {n : Nat} (h : n < 256) : OkB [n] := fun x hx => by
  obtain rfl : x = n := by simpa using hx
  exact h
theorem okB_text9 {s : ByteArray} (h : s.size ≤ 1048576) : OkB (textB s) := (okB_leb9 (by omega)).append (bytesN_ok s)
theorem okB_labs9 : ∀ {l : List Pr}, (∀ p ∈ l, p.1.size ≤ 1048576 ∧ p.2.size ≤ 1048576) → OkB (labsB l)
  | [], _ => OkB.nil
  | p :: r, h => by
    obtain ⟨h1, h2⟩ := h p (by simp)
    exact ((okB_text9 h1).append (okB_text9 h2)).append (okB_labs9 fun q hq => h q (by simp [hq]))
theorem itemB_ok9 {x : It} (hx : OkI x) (hs : ShortI x) (hl : x.l.length ≤ 1048576) : OkB (itemB x) := by
  rw [itemB_right]
  refine OkB.append ?_ ?_
  · cases x.g
    · exact okB_one9 (by decide)
    · exact okB_one9 (by decide)
  · cases x.g with
    | true =>
      rw [if_pos rfl, gapB_right]
      exact (okB_one9 hx.ga).append ((okB_leb9 hx.gf).append ((okB_leb9 hx.gt).append OkB.nil))
    | false =>
      rw [if_neg (by decide), evB_right]
      refine (okB_one9 hx.o).append ((okB_leb9 hx.q).append ((okB_leb9 hx.t).append ((okB_text9 hs.r).append (((okB_leb9 (by omega)).append (okB_labs9 fun p hp => ?_)).append ((okB_one9 hx.s).append ((okB_one9 hx.p).append ((okB_leb9 (zig_lt hx.v0 hx.v1)).append ((okB_one9 hx.w).append OkB.nil))))))))
      obtain ⟨i, hi⟩ := List.mem_iff_getElem?.1 hp
      exact hs.l i p hi
theorem hisB_ok {h : Nat → Nat} (hh : ∀ i, i < 32 → h i < 18446744073709551616) : ∀ k, k ≤ 32 → OkB (hisB h k)
  | 0, _ => fun x hx => by cases hx
  | k + 1, hk => OkB.append (hisB_ok hh k (by omega)) (leb_bytes (hh k (by omega)))
theorem entsB_ok {K : List Ett} (h : ∀ e ∈ K, EntR e) (hn : NmL K) : OkB (entsB K) := fun x hx => by
  obtain ⟨e, he, hx⟩ := List.mem_flatMap.1 hx
  obtain ⟨h1, -, -, h4⟩ := h e he
  rcases List.mem_append.1 hx with h5 | h5
  · exact leb_bytes h4 x h5
  · exact itemB_ok9 h1 (hn e he).2.2.1 (by have := (hn e he).2.2.2; omega) x h5
theorem firesB_ok {F : List It} (h : ∀ x ∈ F, Nm x) : OkB (firesB F) := fun x hx => by
  obtain ⟨y, hy, hx⟩ := List.mem_flatMap.1 hx
  exact itemB_ok9 (h y hy).1 (h y hy).2.2.1 (by have := (h y hy).2.2.2; omega) x hx
theorem Al.bytes {me k : Nat} {a : Ab} (h : Al me k a) (hk : k ≤ 1000000) (hm : a.m < 18446744073709551616) : OkB (4 :: snapB a.m a.X a.K a.F) := by
  have hn := h.fc.ok.nk
  have ha := h.fc.ok.an
  have hv := h.fc.ok.ev
  have hl := h.fc.ok.len
  have hf := h.fl
  have hb : OkB (baseB a.X a.K) := by
    unfold baseB
    exact OkB.append (OkB.append (OkB.append (OkB.append (OkB.append (leb_bytes (by omega)) (leb_bytes (by omega))) (leb_bytes (by omega))) (hisB_ok (fun i _ => by have := h.fc.ok.hs i; omega) 32 (Nat.le_refl _))) (leb_bytes (by omega))) (entsB_ok (h.fc.entR hk h.nm) h.nm)
  have hs : OkB (snapB a.m a.X a.K a.F) := by
    unfold snapB
    exact OkB.append (OkB.append (OkB.append (leb_bytes hm) hb) (leb_bytes (by omega))) (firesB_ok (fun x hx => (h.fi.each x hx).1))
  intro x hx
  rcases List.mem_cons.1 hx with rfl | hx
  · decide
  · exact hs x hx
theorem joinR_append (a b : List (List Nat)) : joinR (a ++ b) = joinR a ++ joinR b := by simp [joinR]
end Go.Proofs.YtholdcgkhicdmaaGreatDoor
