/- Several texts in one: StFi, StLg, StOk, JlSpoil, JlCrash, StSz, StLiv. -/
import Derived.Test.YtholdcgkhicdmaaGreatDoorZq46
namespace Go.Proofs.YtholdcgkhicdmaaGreatDoor
open Go.RowKit
structure Fi (me : Nat) (F : List It) : Prop where
 each : ∀ x ∈ F, Nm x ∧ itemN x = 0 ∧ x.g = false ∧ x.o = me ∧ x.s = 2
 apart : F.Pairwise fun y x => alertB y x = false
theorem Fi.nil (self : Nat) : Fi self [] := ⟨fun x hx => (by cases hx), List.Pairwise.nil⟩
theorem evI_norm {x : It} (hn : normI x = x) (hg : x.g = false) : evI x = x := by
 unfold normI at hn
 rw [hg, if_neg (by decide)] at hn
 exact hn
theorem Fi.note {self : Nat} {F : List It} {x : It} (h : Fi self F) (hx : Nm x) (h0 : itemN x = 0) : Fi self (noteF self F x) := by
 unfold noteF
 split
 ·exact h
 ·rename_i hc
  have hg : x.g = false := by
   cases hg : x.g with
   | false => rfl
   | true => exact absurd (.inl hg) hc
  have ho : x.o = self := Classical.byContradiction fun hne => hc (.inr hne)
  split
  ·rename_i hs
   rw [evI_norm hx.2.1 hg]
   refine ⟨fun y hy => ?_, ?_⟩
   ·rcases List.mem_append.1 hy with h1 | h1
    ·exact h.each y (List.mem_filter.1 h1).1
    ·rw [List.mem_singleton] at h1
     rw [h1]
     exact ⟨hx, h0, hg, ho, hs⟩
   ·rw [List.pairwise_append]
    refine ⟨h.apart.filter _, List.pairwise_singleton _ _, fun y hy z hz => ?_⟩
    rw [List.mem_singleton] at hz
    rw [hz]
    have h1 := (List.mem_filter.1 hy).2
    simpa using h1
  ·rw [List.append_nil]
   exact ⟨fun y hy => h.each y (List.mem_filter.1 hy).1, h.apart.filter _⟩
theorem Fi.all {self : Nat} {F : List It} (h : Fi self F) : noteAll self [] F = F := by
 have key : ∀ k, k ≤ F.length → noteAll self [] (F.take k) = F.take k := by
  intro k
  induction k with
  | zero => intro _; rfl
  | succ k ih =>
    intro hk
    obtain ⟨x, hx⟩ : ∃ x, F[k]? = some x := ⟨_, List.getElem?_eq_getElem (by omega)⟩
    rw [noteAll_step hx, ih (by omega)]
    obtain ⟨h1, -, h3, h4, h5⟩ := h.each x (List.mem_of_getElem? hx)
    have hap : ∀ y ∈ F.take k, (!alertB y x) = true := fun y hy => by
     have hp : (F.take k ++ [x]).Pairwise fun y x => alertB y x = false := by
      have e : F.take k ++ [x] = F.take (k + 1) := by rw [List.take_add_one, hx]; rfl
      rw [e]
      exact h.apart.sublist (List.take_sublist _ _)
     have := (List.pairwise_append.1 hp).2.2 y hy x (List.mem_singleton_self x)
     rw [this]; rfl
    unfold noteF
    rw [if_neg (fun hc => hc.elim (fun hg => by rw [h3] at hg; cases hg) (fun ho => ho h4)), List.filter_eq_self.2 hap, if_pos h5, evI_norm h1.2.1 h3, List.take_add_one, hx]
    rfl
 have := key F.length (Nat.le_refl _)
 rwa [List.take_length] at this
structure Al (me k : Nat) (a : Ab) : Prop where
 fc : Fc a.X a.K k
 nm : NmL a.K
 fi : Fi me a.F
 fl : a.F.length ≤ k
theorem Al.new (self q : Nat) : Al self 0 ⟨⟨q, 1, 0, 0, fun _ => 0⟩, [], [], 0, 0⟩ := ⟨Fc.new q, fun e he => (by cases he), Fi.nil self, Nat.le_refl _⟩
theorem Al.put {self k : Nat} {a : Ab} (h : Al self k a) {x : It} (hx : Nm x) (h0 : (putV a.X a.K x).1 = 0) : Al self (k + 1) (putA self a x) := by
 have hp : partE x a.X.h = 0 := Classical.byContradiction fun hne => by
  have h1 : (putV a.X a.K x).1 = partE x a.X.h := by unfold putV putR; rw [if_pos hne]
  rw [h1] at h0
  exact hne h0
 have hn : itemN x = 0 := by
  unfold partE at hp
  split at hp
  ·rename_i hne; exact absurd hp hne
  ·rename_i hne; exact Classical.byContradiction hne
 refine ⟨h.fc.put x, nm_putV h.nm hx h.fc.ok.hs, h.fi.note hx hn, ?_⟩
 have h1 := noteF_len self a.F x
 have h2 := h.fl
 show (noteF self a.F x).length ≤ k + 1
 omega
theorem Al.snap {self k gen : Nat} {a b : Ab} (h : Al self k a) (hk : k ≤ 1000000) (hq : b.X.q = a.X.q) (hm : a.m < 18446744073709551616) :
  repA self gen b (4 :: snapB a.m a.X a.K a.F) = some ⟨a.X, ers a.K, a.F, a.m, if 0 < gen then (snapB a.m a.X a.K a.F).length + 9 else b.f⟩ :=
 repA_snap h.fc hk hq (by have := h.fc.ok.ev; omega) hm (h.fc.entR hk h.nm) (fun x hx => by
  obtain ⟨h1, h2, h3, h4, h5⟩ := h.fi.each x hx
  exact ⟨h1.1, h2, h1.2.1, h3, h5⟩) (by have := h.fl; omega) h.fi.all
theorem repAll_app {self gen : Nat} {a : Ab} (cs : List (List Nat)) (c : List Nat) : repAll self gen a (cs ++ [c]) = (repAll self gen a cs).bind fun b => repA self gen b c := by
 unfold repAll
 rw [List.foldlM_append]
 simp
theorem Fc.more {X : Sp} {K : List Ett} {k j : Nat} (h : Fc X K k) (hj : k ≤ j) : Fc X K j := ⟨h.ok.more hj, h.cov, h.sum, h.hi⟩
theorem Al.more {me k j : Nat} {a : Ab} (h : Al me k a) (hj : k ≤ j) : Al me j a := ⟨h.fc.more hj, h.nm, h.fi, by have := h.fl; omega⟩
theorem Al.re {me k : Nat} {a : Ab} (h : Al me k a) (hk : k ≤ 80000) (h1 : 64 ≤ a.X.q) (h2 : a.X.q ≤ 65536) (r : List Nat) : ReOkA a r :=
 ⟨fun i _ => h.fc.ok.hs i, .inr (by have := h.fc.ok.ev; omega), by have := h.fc.ok.len; omega, by have := h.fl; omega, h.fc.ok.riseE, h1, h2⟩
def a0of (q : Nat) : Ab := ⟨⟨q, 1, 0, 0, fun _ => 0⟩, [], [], 0, 0⟩
structure Lg (me gen q k : Nat) (cs : List (List Nat)) (a : Ab) : Prop where
 al : Al me k a
 rep : repAll me gen (a0of q) cs = some a
 qq : a.X.q = q
 er : ers a.K = a.K
 m : a.m < 18446744073709551616
 ok : OkR cs
 pre : ∀ (j : Nat) b, repAll me gen (a0of q) (cs.take j) = some b → Al me k b ∧ b.X.q = q
section
variable {me gen q k : Nat} {cs : List (List Nat)} {a : Ab}
theorem Lg.new (me gen q : Nat) : Lg me gen q 0 [] (a0of q) :=
 ⟨Al.new me q, rfl, rfl, rfl, (by show 0 < 18446744073709551616; decide), fun c hc => (by cases hc), fun j b hb => by
  rw [List.take_nil] at hb
  rw [← Option.some.inj (show some (a0of q) = some b from hb)]
  exact ⟨Al.new me q, rfl⟩⟩
theorem Lg.app (h : Lg me gen q k cs a) {c : List Nat} {a' : Ab} {k' : Nat} (hk : k ≤ k') (hr : repA me gen a c = some a') (ha : Al me k' a') (hq : a'.X.q = q) (he : ers a'.K = a'.K) (hm : a'.m < 18446744073709551616) (hc : OkB c ∧ c.length ≤ 524288) : Lg me gen q k' (cs ++ [c]) a' := by
 refine ⟨ha, by rw [repAll_app, h.rep]; exact hr, hq, he, hm, fun x hx => ?_, fun j b hb => ?_⟩
 ·rcases List.mem_append.1 hx with h1 | h1
  ·exact h.ok x h1
  ·rw [List.mem_singleton] at h1; rw [h1]; exact hc
 ·by_cases hj : j ≤ cs.length
  ·rw [List.take_append_of_le_length hj] at hb
   obtain ⟨h1, h2⟩ := h.pre j b hb
   exact ⟨h1.more hk, h2⟩
  ·rw [List.take_of_length_le (by rw [List.length_append]; simp; omega), repAll_app, h.rep] at hb
   have e : a' = b := by
    have : repA me gen a c = some b := hb
    rw [hr] at this
    exact Option.some.inj this
   rw [← e]
   exact ⟨ha, hq⟩
theorem ers_addJ (K : List Ett) (X : Sp) (x : It) : ers (putV X (ers K) x).2.2.2.2 = (putV X (ers K) x).2.2.2.2 := by
 rw [putV_of X K x none 0]
 exact ers_ers _
theorem Lg.put (h : Lg me gen q k cs a) {x : It} (hx : Nm x) (h0 : (putV a.X a.K x).1 = 0) (hok : OkB (1 :: itemB x)) (hl : (itemB x).length ≤ 500000) : Lg me gen q (k + 1) (cs ++ [1 :: itemB x]) (putA me a x) := by
 have hp : partE x a.X.h = 0 := Classical.byContradiction fun hne => by
  have h1 : (putV a.X a.K x).1 = partE x a.X.h := by unfold putV putR; rw [if_pos hne]
  rw [h1] at h0
  exact hne h0
 have hn : itemN x = 0 := by
  unfold partE at hp
  split at hp
  ·rename_i hne; exact absurd hp hne
  ·rename_i hne; exact Classical.byContradiction hne
 refine h.app (Nat.le_succ _) (by rw [repA_1]; exact rep1_back hx.1 hn hx.2.1 h0) (h.al.put hx h0) ?_ ?_ h.m ⟨hok, by rw [List.length_cons]; omega⟩
 ·show (putV a.X a.K x).2.2.2.1.q = q
  unfold putV
  rw [putR_q]
  exact h.qq
 ·show ers (putV a.X a.K x).2.2.2.2 = (putV a.X a.K x).2.2.2.2
  have := ers_addJ a.K a.X x
  rwa [h.er] at this
theorem Lg.life (h : Lg me gen q k cs a) {m : Nat} (hm : m < 18446744073709551616) : Lg me gen q k (cs ++ [3 :: leb m]) { a with m := m } := by
 have hl := leb_le10 hm
 refine h.app (Nat.le_refl _) (by rw [repA_3]; exact rep3_back hm) ⟨h.al.fc, h.al.nm, h.al.fi, h.al.fl⟩ h.qq h.er hm ⟨fun x hx => ?_, by rw [List.length_cons]; omega⟩
 rcases List.mem_cons.1 hx with rfl | hx
 ·decide
 ·exact leb_bytes hm x hx
theorem Lg.snap (h : Lg me gen q k cs a) (hk : k ≤ 1000000) (hok : OkB (4 :: snapB a.m a.X a.K a.F)) (hl : (snapB a.m a.X a.K a.F).length ≤ 500000) : Lg me (gen + 1) q k [4 :: snapB a.m a.X a.K a.F] { a with f := (snapB a.m a.X a.K a.F).length + 9 } := by
 have h1 := h.al.snap (gen := gen + 1) (b := a0of q) hk (by rw [h.qq]; rfl) h.m
 rw [h.er, if_pos (by omega)] at h1
 have h2 := (Lg.new me (gen + 1) q).app (k' := k) (Nat.zero_le _) h1 ⟨h.al.fc, h.al.nm, h.al.fi, h.al.fl⟩ h.qq h.er h.m ⟨hok, by rw [List.length_cons]; omega⟩
 exact h2
theorem Lg.re (h : Lg me gen q k cs a) (hk : k ≤ 80000) (hq1 : 64 ≤ q) (hq2 : q ≤ 65536) {j c : Nat} {r : List Nat} {b : Ab} (_ : cs[j]? = some (c :: r)) (hb : repAll me gen (a0of q) (cs.take j) = some b) : ReOkA b r := by
 obtain ⟨h1, h2⟩ := h.pre j b hb
 exact h1.re hk (by omega) (by omega) r
end
theorem okB_leb9 {n : Nat} (h : n < 18446744073709551616) : OkB (leb n) := leb_bytes h
theorem okB_one9 {n : Nat} (h : n < 256) : OkB [n] := fun x hx => by
 obtain rfl : x = n := by simpa using hx
 exact h
theorem okB_text9 {s : ByteArray} (h : s.size ≤ 1048576) : OkB (textB s) := (okB_leb9 (by omega)).append (bytesN_ok s)
theorem okB_labs9 : ∀ {l : List Pr}, (∀ p ∈ l, p.1.size ≤ 1048576 ∧ p.2.size ≤ 1048576) → OkB (labsB l)
 | [], _ => OkB.nil
 | p :: r, h => by
   obtain ⟨h1, h2⟩ := h p (by simp)
   exact ((okB_text9 h1).append (okB_text9 h2)).append (okB_labs9 fun q hq => h q (by simp [hq]))
theorem itemB_ok9 {x : It} (hx : OkI x) (hs : ShortI x) (hl : x.l.length ≤ 1048576) : OkB (itemB x) := by
 rw [itemB_right]
 refine OkB.append ?_ ?_
 ·cases x.g
  ·exact okB_one9 (by decide)
  ·exact okB_one9 (by decide)
 ·cases x.g with
  | true =>
    rw [if_pos rfl, gapB_right]
    exact (okB_one9 hx.ga).append ((okB_leb9 hx.gf).append ((okB_leb9 hx.gt).append OkB.nil))
  | false =>
    rw [if_neg (by decide), evB_right]
    refine (okB_one9 hx.o).append ((okB_leb9 hx.q).append ((okB_leb9 hx.t).append ((okB_text9 hs.r).append (((okB_leb9 (by omega)).append (okB_labs9 fun p hp => ?_)).append ((okB_one9 hx.s).append ((okB_one9 hx.p).append ((okB_leb9 (zig_lt hx.v0 hx.v1)).append ((okB_one9 hx.w).append OkB.nil))))))))
    obtain ⟨i, hi⟩ := List.mem_iff_getElem?.1 hp
    exact hs.l i p hi
theorem hisB_ok {h : Nat → Nat} (hh : ∀ i, i < 32 → h i < 18446744073709551616) : ∀ k, k ≤ 32 → OkB (hisB h k)
 | 0, _ => fun x hx => by cases hx
 | k + 1, hk => OkB.append (hisB_ok hh k (by omega)) (leb_bytes (hh k (by omega)))
theorem entsB_ok {K : List Ett} (h : ∀ e ∈ K, EntR e) (hn : NmL K) : OkB (entsB K) := fun x hx => by
 obtain ⟨e, he, hx⟩ := List.mem_flatMap.1 hx
 obtain ⟨h1, -, -, h4⟩ := h e he
 rcases List.mem_append.1 hx with h5 | h5
 ·exact leb_bytes h4 x h5
 ·exact itemB_ok9 h1 (hn e he).2.2.1 (by have := (hn e he).2.2.2; omega) x h5
theorem firesB_ok {F : List It} (h : ∀ x ∈ F, Nm x) : OkB (firesB F) := fun x hx => by
 obtain ⟨y, hy, hx⟩ := List.mem_flatMap.1 hx
 exact itemB_ok9 (h y hy).1 (h y hy).2.2.1 (by have := (h y hy).2.2.2; omega) x hx
theorem Al.bytes {me k : Nat} {a : Ab} (h : Al me k a) (hk : k ≤ 1000000) (hm : a.m < 18446744073709551616) : OkB (4 :: snapB a.m a.X a.K a.F) := by
 have hn := h.fc.ok.nk
 have ha := h.fc.ok.an
 have hv := h.fc.ok.ev
 have hl := h.fc.ok.len
 have hf := h.fl
 have hb : OkB (baseB a.X a.K) := by
  unfold baseB
  exact OkB.append (OkB.append (OkB.append (OkB.append (OkB.append (leb_bytes (by omega)) (leb_bytes (by omega))) (leb_bytes (by omega))) (hisB_ok (fun i _ => by have := h.fc.ok.hs i; omega) 32 (Nat.le_refl _))) (leb_bytes (by omega))) (entsB_ok (h.fc.entR hk h.nm) h.nm)
 have hs : OkB (snapB a.m a.X a.K a.F) := by
  unfold snapB
  exact OkB.append (OkB.append (OkB.append (leb_bytes hm) hb) (leb_bytes (by omega))) (firesB_ok (fun x hx => (h.fi.each x hx).1))
 intro x hx
 rcases List.mem_cons.1 hx with rfl | hx
 ·decide
 ·exact hs x hx
theorem joinR_append (a b : List (List Nat)) : joinR (a ++ b) = joinR a ++ joinR b := by simp [joinR]
theorem entsB_len : ∀ {K : List Ett}, (∀ e ∈ K, e.i < 18446744073709551616) → (entsB K).length ≤ 10 * K.length + sumE K
 | [], _ => Nat.zero_le _
 | e :: K, h => by
   have ih := entsB_len (K := K) fun x hx => h x (List.mem_cons_of_mem _ hx)
   have h1 := leb_le10 (h e List.mem_cons_self)
   have h2 : entsB (e :: K) = (leb e.i ++ itemB e.x) ++ entsB K := by simp [entsB]
   rw [h2, List.length_append, List.length_append, sumE_cons, List.length_cons]
   omega
theorem snapB_ers (m : Nat) (X : Sp) (K : List Ett) (F : List It) : snapB m X (ers K) F = snapB m X K F := by
 unfold snapB baseB
 rw [ers_len, entsB_ers]
theorem firesB_len_filter (p : It → Bool) : ∀ F : List It, (firesB (F.filter p)).length ≤ (firesB F).length
 | [] => Nat.le_refl _
 | x :: F => by
   have ih := firesB_len_filter p F
   have h2 : firesB (x :: F) = itemB x ++ firesB F := by simp [firesB]
   rw [List.filter_cons]
   split
   ·have h3 : firesB (x :: F.filter p) = itemB x ++ firesB (F.filter p) := by simp [firesB]
    rw [h2, h3, List.length_append, List.length_append]; omega
   ·rw [h2, List.length_append]; omega
theorem firesB_note {me : Nat} {F : List It} {x : It} (hn : normI x = x) : (firesB (noteF me F x)).length ≤ (firesB F).length + (itemB x).length := by
 unfold noteF
 split
 ·omega
 ·rename_i hc
  have hg : x.g = false := by
   cases hg : x.g with
   | false => rfl
   | true => exact absurd (.inl hg) hc
  have h1 := firesB_len_filter (fun y => !alertB y x) F
  rw [firesB_app, List.length_append]
  split
  ·rw [evI_norm hn hg]
   have h2 : firesB [x] = itemB x := by simp [firesB]
   rw [h2]; omega
  ·have h2 : firesB [] = [] := rfl
   rw [h2, List.length_nil]; omega
theorem Al.snapLen {me k fb : Nat} {a : Ab} (h : Al me k a) (hk : k ≤ 1000000) (hm : a.m < 18446744073709551616) (hf : (firesB a.F).length ≤ fb) : (snapB a.m a.X a.K a.F).length ≤ 380 + 11 * a.X.q + fb := by
 have h1 := leb_le10 hm
 have hnk := h.fc.ok.nk
 have han := h.fc.ok.an
 have hev := h.fc.ok.ev
 have h2 : (leb a.X.n).length ≤ 10 := leb_le10 (by omega)
 have h3 : (leb a.X.a).length ≤ 10 := leb_le10 (by omega)
 have h4 : (leb a.X.v).length ≤ 10 := leb_le10 (by omega)
 have h5 := hisB_len a.X.h (fun i _ => by have := h.fc.ok.hs i; omega) 32 (Nat.le_refl _)
 have hl := len_sum a.K
 have hs := h.fc.sum
 have hll := h.fc.ok.len
 have h6 : (leb a.K.length).length ≤ 10 := leb_le10 (by omega)
 have h7 : (leb a.F.length).length ≤ 10 := leb_le10 (by have := h.fl; omega)
 have h8 := entsB_len (K := a.K) (fun e he => by
  have h9 := h.fc.ok.ix e.i (List.mem_map_of_mem (f := fun e : Ett => e.i) he)
  omega)
 unfold snapB baseB
 simp only [List.length_append]
 omega
structure Lv (me q k b : Nat) (gen : Nat) (cs : List (List Nat)) (a : Ab) : Prop where
 lg : Lg me gen q k cs a
 ml : me < 32
 q1 : 64 ≤ q
 q2 : q ≤ 320
 k2 : k ≤ 1000
 b2 : b ≤ 13000
 fb : (firesB a.F).length ≤ b
 fl : a.f ≤ (joinR cs).length
 fz : a.f ≤ 16920
 ge : gen * 1280 + (joinR cs).length ≤ b + a.f
section
variable {me q k b gen : Nat} {cs : List (List Nat)} {a : Ab}
theorem Lv.gen_lt (h : Lv me q k b gen cs a) : gen + 1 < 100 := by
 have h1 := h.ge; have h2 := h.b2; have h3 := h.fl; omega
theorem Lv.sn (h : Lv me q k b gen cs a) : (snapB a.m a.X a.K a.F).length + 9 ≤ 16920 ∧ OkB (4 :: snapB a.m a.X a.K a.F) := by
 have h1 := h.k2
 have h2 := h.lg.al.snapLen (by omega) h.lg.m h.fb
 have h3 := h.lg.qq
 have h4 := h.q2
 have h5 := h.b2
 exact ⟨by omega, h.lg.al.bytes (by omega) h.lg.m⟩
theorem Lv.len (h : Lv me q k b gen cs a) : (joinR cs).length ≤ 29920 := by
 have h1 := h.ge; have h2 := h.b2; have h3 := h.fz; omega
theorem joinR_snoc (cs : List (List Nat)) (c : List Nat) : (joinR (cs ++ [c])).length = (joinR cs).length + c.length + 8 := by
 have h2 : joinR [c] = laidR c := by simp [joinR]
 rw [joinR_append, h2, List.length_append, laidR_length]; omega
theorem joinR_app1 (cs : List (List Nat)) (c : List Nat) : joinR (cs ++ [c]) = joinR cs ++ laidR c := by
 have h2 : joinR [c] = laidR c := by simp [joinR]
 rw [joinR_append, h2]
theorem Lv.life (h : Lv me q k b gen cs a) {m : Nat} (hm : m < 18446744073709551616) (hb : b + 19 ≤ 13000) : Lv me q k (b + 19) gen (cs ++ [3 :: leb m]) { a with m := m } := by
 have h1 := joinR_snoc cs (3 :: leb m)
 have h2 := leb_le10 hm
 rw [List.length_cons] at h1
 have h3 := h.fl
 have h4 := h.ge
 exact ⟨h.lg.life hm, h.ml, h.q1, h.q2, h.k2, hb, by have := h.fb; show (firesB a.F).length ≤ _; omega, by show a.f ≤ _; omega, h.fz, by show _ ≤ _ + a.f; omega⟩
theorem Lv.put (h : Lv me q k b gen cs a) {x : It} (hx : Nm x) (h0 : (putV a.X a.K x).1 = 0) (hok : OkB (1 :: itemB x)) (hk : k + 1 ≤ 1000) (hb : b + (itemB x).length + 9 ≤ 13000) : Lv me q (k + 1) (b + (itemB x).length + 9) gen (cs ++ [1 :: itemB x]) (putA me a x) := by
 have h1 := joinR_snoc cs (1 :: itemB x)
 rw [List.length_cons] at h1
 have h3 := h.fl
 have h4 := h.ge
 have h5 := firesB_note (me := me) (F := a.F) hx.2.1
 exact ⟨h.lg.put hx h0 hok (by omega), h.ml, h.q1, h.q2, hk, hb, by have := h.fb; show (firesB (noteF me a.F x)).length ≤ _; omega, by show a.f ≤ _; omega, h.fz, by show _ ≤ _ + a.f; omega⟩
theorem Lv.snap (h : Lv me q k b gen cs a) (hl : a.f + 4 * q + 1024 < (joinR cs).length) : Lv me q k b (gen + 1) [4 :: snapB a.m a.X a.K a.F] { a with f := (snapB a.m a.X a.K a.F).length + 9 } := by
 have h1 : joinR [4 :: snapB a.m a.X a.K a.F] = laidR (4 :: snapB a.m a.X a.K a.F) := by simp [joinR]
 have h2 : (joinR [4 :: snapB a.m a.X a.K a.F]).length = (snapB a.m a.X a.K a.F).length + 9 := by rw [h1, laidR_length, List.length_cons]
 obtain ⟨h3, h4⟩ := h.sn
 have h5 := h.k2
 have h6 := h.ge
 have h7 := h.q1
 have h8 := h.fl
 have hsn := h.lg.snap (by omega) h4 (by omega)
 obtain ⟨z, hz⟩ : ∃ z, z = (snapB a.m a.X a.K a.F).length + 9 := ⟨_, rfl⟩
 have h9 : (gen + 1) * 1280 + z ≤ b + z := by
  clear hsn h4 h1 h2 h3 hz h5
  generalize (joinR cs).length = y at *
  generalize a.f = x at *
  rw [Nat.add_mul, Nat.one_mul]
  generalize gen * 1280 = y2 at *
  omega
 rw [← hz] at h2 h3 hsn ⊢
 exact ⟨hsn, h.ml, h.q1, h.q2, h.k2, h.b2, h.fb, by rw [h2]; exact Nat.le_refl _, h3, by rw [h2]; exact h9⟩
end
theorem gns_gen {g : Nat} (hg : g < 100) (f : Fl) : GNs [(nmG g, f)] [some g] := ⟨rfl, fun i p o h1 h2 => by
 cases i with
 | zero =>
   simp at h1 h2
   rw [← h1, ← h2]
   exact .inl ⟨g, hg, rfl, rfl⟩
 | succ i => simp at h1⟩
theorem open_gen {g : Nat} (f : Fl) : open9 [(nmG g, f)] (nmG g) = [(nmG g, ⟨f.by_.take (scanJ f.by_).2, (scanJ f.by_).2⟩)] := by
 unfold open9
 rw [findP_one]
 exact put_one9
theorem had_one (s : ByteArray) (f : Fl) : had [(s, f)] s = f := by unfold had; rw [findP_one]; rfl
theorem scan_join {cs : List (List Nat)} (h : OkR cs) : scanJ (joinR cs) = (cs, (joinR cs).length) := by
 have := scanJ_join (r := []) h
 rw [List.append_nil] at this
 rw [this, scanJ_none (by rfl)]
 simp
theorem Lv.syncPre {me q k b gen s : Nat} {cs : List (List Nat)} {R : Rc} (h : Lv me q k b gen cs R.ab) (hg : R.gen = gen) (hn : R.nm = nmG gen) (hL : R.LL = [(nmG gen, ⟨joinR cs, s⟩)]) : SyncPre R := by
 have hf : R.first ≤ 16920 := h.fz
 have hq : R.X.q = q := h.lg.qq
 have hq2 := h.q2
 have hk := h.k2
 refine ⟨by omega, by omega, by rw [hn]; exact nmG_max (by have := h.gen_lt; omega), ⟨joinR cs, s⟩, by rw [hL, hn]; exact findP_one _ _, fun _ => ?_⟩
 obtain ⟨h1, h2⟩ := h.sn
 have e : snapB R.ab.m R.ab.X R.ab.K R.ab.F = snapB R.life R.X R.L (R.F.map (·.x)) := snapB_ers _ _ _ _
 rw [e] at h1 h2
 have hnk := h.lg.al.fc.ok.nk
 have han := h.lg.al.fc.ok.an
 have hev := h.lg.al.fc.ok.ev
 have hll := h.lg.al.fc.ok.len
 have hfl := h.lg.al.fl
 have hnk : R.X.n ≤ k + 1 := hnk
 have han : R.X.a < R.X.n := han
 have hev : R.X.v + cntE (ers R.L) ≤ k := hev
 have hll : (ers R.L).length ≤ k := hll
 have hfl : (R.F.map (·.x)).length ≤ k := hfl
 rw [ers_len] at hll
 rw [List.length_map] at hfl
 exact ⟨⟨by omega, by omega, by omega, fun i _ => by have : R.X.h i ≤ 1099511627776 := h.lg.al.fc.ok.hs i; omega, h.lg.m, by omega, by omega, by omega⟩, h2, by rw [hn, hg], by rw [hg]; exact h.gen_lt, by rw [hL, hg]⟩
theorem Lv.openPre {me q k b gen s : Nat} {cs : List (List Nat)} {a : Ab} (h : Lv me q k b gen cs a) (hl : (joinR cs).length ≤ 20000) (hm : a.m + 1 < 18446744073709551616) (hb : b + 19 ≤ 13000) : OpenPre me gen ⟨q, 1, 0, 0, fun _ => 0⟩ [(nmG gen, ⟨joinR cs, s⟩)] [some gen] := by
 have hg := h.gen_lt
 have hsc := scan_join h.lg.ok
 have e1 : open9 [(nmG gen, (⟨joinR cs, s⟩ : Fl))] (nmG gen) = [(nmG gen, ⟨joinR cs, (joinR cs).length⟩)] := by
  rw [open_gen]
  show [(nmG gen, (⟨(joinR cs).take (scanJ (joinR cs)).2, (scanJ (joinR cs)).2⟩ : Fl))] = _
  rw [hsc]
  show [(nmG gen, (⟨(joinR cs).take (joinR cs).length, (joinR cs).length⟩ : Fl))] = _
  rw [List.take_length]
 have e2 : recs9 [(nmG gen, (⟨joinR cs, s⟩ : Fl))] (nmG gen) = cs := by
  unfold recs9
  rw [findP_one]
  show (scanJ (joinR cs)).1 = cs
  rw [hsc]
 have hcl : ∀ c ∈ cs, c.length ≤ 20000 := fun c hc => by have := laidN_each hc; have := laidN_join cs; omega
 refine ⟨gns_gen (by omega) _, by simp [topG], by simp, ⟨[some gen], by rw [e1]; exact gns_gen (by omega) _, fun i p k h1 h2 => ?_⟩, by rw [e1]; simp, by rw [e1, had_one]; exact hl, fun p hp => ?_, h.ml, fun f hf => ?_, by rw [e2]; exact hcl, by rw [e2]; have := laidN_count cs; have := laidN_join cs; omega, fun j c r a' hj hr => ?_, fun a' R1 hra hs1 hs2 hs3 hs4 hs5 => ?_⟩
 ·rw [e1] at h1
  cases i with
  | zero => simp at h1; rw [← h1]
  | succ i => simp at h1
 ·rw [e1, List.mem_singleton] at hp
  rw [hp]
  exact nmG_ne_new _ (by omega)
 ·rw [findP_one] at hf
  rw [← Option.some.inj hf]
  exact hl
 ·rw [e2] at hj hr
  have := h.k2
  exact h.lg.re (by omega) h.q1 (by have := h.q2; omega) hj hr
 ·rw [e2] at hra
  have e3 : a = a' := by
   have h9 : repAll me gen (a0of q) cs = some a' := hra
   rw [h.lg.rep] at h9
   exact Option.some.inj h9
  subst e3
  rw [Nat.mod_eq_of_lt hm] at hs4 hs5
  have h2 := h.life hm hb
  rw [e1, had_one, put_one9] at hs5
  rw [← hs4] at h2
  refine h2.syncPre hs2 hs3 (s := (joinR cs).length) ?_
  rw [hs5, joinR_app1]
structure Lw (w0 w : World) (P : Nat → Nat → Prop) : Prop where
 lo : ∀ i k, P i k → w0.heap.size ≤ k
 bl : Below w0.heap.size w0 w
section
variable {w0 w w' : World} {P P' : Nat → Nat → Prop}
theorem Lw.mv (h : Lw w0 w P) (hm : Mv6 w P w' P') : Lw w0 w' P' :=
 ⟨fun i k hk => (hm.new i k hk).elim (fun ⟨j, hj⟩ => h.lo j k hj) (fun hk => Nat.le_trans h.bl.size hk),
  h.bl.trans ⟨hm.only.os, hm.only.tape, hm.only.output, hm.only.size, fun k hk => hm.only.block k (Nat.lt_of_lt_of_le hk h.bl.size) (fun ⟨i, hi⟩ => by have := h.lo i k hi; omega)⟩⟩
theorem Lw.below (h : Lw w0 w P) (hb : Below w.heap.size w w') : Lw w0 w' P := ⟨h.lo, h.bl.trans (hb.mono h.bl.size)⟩
end
structure Live (w : World) (P : Nat → Nat → Prop) (R : Rc) (n me q k b : Nat) (cs : List (List Nat)) (syn : Nat) : Prop where
 st : Sto w P R n
 lv : Lv me q k b R.gen cs R.ab
 nm : R.nm = nmG R.gen
 LL : R.LL = [(nmG R.gen, ⟨joinR cs, syn⟩)]
 sf : R.self = me
section
variable {w w' : World} {P P' : Nat → Nat → Prop} {R R' : Rc} {n me q k b syn : Nat} {cs : List (List Nat)}
theorem Live.below (h : Live w P R n me q k b cs syn) (hb : Below w.heap.size w w') : Live w' P R n me q k b cs syn := ⟨h.st.below hb, h.lv, h.nm, h.LL, h.sf⟩
theorem Live.gen_lt (h : Live w P R n me q k b cs syn) : R.gen < 100 := by have := h.lv.gen_lt; omega
theorem Live.find (h : Live w P R n me q k b cs syn) : findP R.LL R.nm = some ⟨joinR cs, syn⟩ := by rw [h.LL, h.nm]; exact findP_one _ _
theorem Live.had_ (h : Live w P R n me q k b cs syn) : had R.LL R.nm = ⟨joinR cs, syn⟩ := by rw [h.LL, h.nm]; exact had_one _ _
theorem sync_live (h : SyncPost R R') (hs : Sto w P R' n) (hl : Lv me q k b R.gen cs R.ab) (hn : R.nm = nmG R.gen) (hL : R.LL = [(nmG R.gen, ⟨joinR cs, syn⟩)]) (hm : R.self = me) :
  ∃ cs', Live w P R' n me q k b cs' (joinR cs').length ∧ (joinR cs').length ≤ R'.first + 4 * q + 1024 ∧ R'.ab.X = R.ab.X ∧ R'.ab.K = R.ab.K ∧ R'.ab.F = R.ab.F ∧ R'.life = R.life ∧ R'.gd = R.gd ∧ R'.g = R.g ∧ R'.st = R.st := by
 obtain ⟨a1, a2, a3, a4, a5, a6, a7, a8⟩ := h.same
 have hq : R.X.q = q := hl.lg.qq
 obtain ⟨f, hf, h | h⟩ := h
 ·obtain ⟨b1, LL', e, b2⟩ := h
  have ef : f = ⟨joinR cs, syn⟩ := by
   rw [hL, hn, findP_one] at hf
   exact (Option.some.inj hf).symm
  have eL : LL' = [(nmG R.gen, ⟨joinR cs, (joinR cs).length⟩)] := by
   rcases b2 with b2 | ⟨b2, b3⟩
   ·rw [b2, hL, hn, put_one9, ef]
   ·rw [b2, hL]
    rw [ef] at b3
    have b3 : syn = (joinR cs).length := b3
    rw [b3]
  subst e
  refine ⟨cs, ⟨hs, hl, hn, eL, hm⟩, ?_, a5, a6, a7, a8, a1, a2, a3⟩
  rw [ef, hq] at b1
  exact b1
 ·obtain ⟨b1, jb, e⟩ := h
  have ef : f = ⟨joinR cs, syn⟩ := by
   rw [hL, hn, findP_one] at hf
   exact (Option.some.inj hf).symm
  rw [ef, hq] at b1
  have hsn := hl.snap (show R.ab.f + 4 * q + 1024 < (joinR cs).length from b1)
  have es : snapB R.ab.m R.ab.X R.ab.K R.ab.F = snapB R.life R.X R.L (R.F.map (·.x)) := snapB_ers _ _ _ _
  rw [es] at hsn
  obtain ⟨sb, hsb⟩ : ∃ z, z = snapB R.life R.X R.L (R.F.map fun e : Ett => e.x) := ⟨_, rfl⟩
  rw [← hsb] at hsn e
  have ej : joinR [4 :: sb] = laidR (4 :: sb) := by simp [joinR]
  have el : (joinR [4 :: sb]).length = sb.length + 9 := by rw [ej, laidR_length, List.length_cons]
  subst e
  refine ⟨[4 :: sb], ⟨hs, hsn, rfl, ?_, hm⟩, ?_, a5, a6, a7, a8, a1, a2, a3⟩
  ·show [(nmG (R.gen + 1), (⟨laidR (4 :: sb), sb.length + 9⟩ : Fl))] = _
   rw [← ej, ← el]
  ·rw [el]
   show sb.length + 9 ≤ (sb.length + 9) + 4 * q + 1024
   omega
theorem live_sync (h : Live w P R n me q k b cs syn) (hn : n ≤ 2000) :
  Calls Tryz.prog 13 #[.pointer (some ⟨R.st, 0, none⟩)] w fun e w' => e = .returned (.int .i64 0) ∧ ∃ P' R' cs', Live w' P' R' (n + 7) me q k b cs' (joinR cs').length ∧ Mv6 w P w' P' ∧ (joinR cs').length ≤ R'.first + 4 * q + 1024 ∧ R'.ab.X = R.ab.X ∧ R'.ab.K = R.ab.K ∧ R'.ab.F = R.ab.F ∧ R'.life = R.life ∧ R'.gd = R.gd ∧ R'.g = R.g ∧ R'.st = R.st := by
 refine (sto_sync9 h.st hn (h.lv.syncPre rfl h.nm h.LL)).mono ?_
 rintro _ w1 ⟨rfl, P', R', h1, h2, h3⟩
 obtain ⟨cs', g1, g2, g3⟩ := sync_live h3 h1 h.lv h.nm h.LL h.sf
 exact ⟨rfl, P', R', cs', g1, h2, g2, g3⟩
theorem live_put (x : It) (A : Option Addr) (c : Nat) (h : Live w P R n me q k b cs syn) (hn : n ≤ 3000) (hx : Mod x) (hnx : Nm x) (hA : A = none → x.l.length = 0) (hl : Lb w P A x.l) (hB : (itemB x).length ≤ 1000) (hok : OkB (1 :: itemB x)) (hk : k + 1 ≤ 1000) (hb : b + (itemB x).length + 9 ≤ 13000) :
  Calls Tryz.prog 11 #[.pointer (some ⟨R.st, 0, none⟩), .agg (itC x A c).toArray] w fun e w' =>
   ((putV R.ab.X R.ab.K x).1 ≠ 0 ∧ e = .returned (.tuple #[.int .u64 0, .int .u64 0, .int .i64 (putV R.ab.X R.ab.K x).1]) ∧ Below w.heap.size w w') ∨
   ((putV R.ab.X R.ab.K x).1 = 0 ∧ e = .returned (.tuple #[.int .u64 (putV R.ab.X R.ab.K x).2.1, .int .u64 (putV R.ab.X R.ab.K x).2.2.1, .int .i64 0]) ∧ ∃ P' R', Live w' P' R' (n + 1) me q (k + 1) (b + (itemB x).length + 9) (cs ++ [1 :: itemB x]) syn ∧ Mv6 w P w' P' ∧ R'.ab = putA me R.ab x ∧ R'.gd = R.gd ∧ R'.g = R.g ∧ R'.st = R.st ∧ R'.gen = R.gen) := by
 have hfc := h.lv.lg.al.fc.ok
 have hk2 := h.lv.k2
 have hlen := h.lv.len
 have hev := hfc.ev
 have hlL := hfc.len
 have hfl := h.lv.lg.al.fl
 have hev : R.X.v + cntE (ers R.L) ≤ k := hev
 have hlL : (ers R.L).length ≤ k := hlL
 have hfl : (R.F.map (·.x)).length ≤ k := hfl
 rw [cnt_ers] at hev
 rw [ers_len] at hlL
 rw [List.length_map] at hfl
 have hgl := h.gen_lt
 refine (sto_put x A c w h.st hn hx hA hl (by omega) hok (fun i _ => hfc.hs i) (.inr (by omega)) (by omega) (by omega) (by rw [h.nm]; exact nmG_value _ hgl) (by rw [h.nm]; exact nmG_max hgl) (fun hf => by rw [h.find] at hf; cases hf) (by rw [h.had_]; show (joinR cs).length ≤ 100000; omega)).mono ?_
 rintro e w1 (⟨h1, h2, h3⟩ | ⟨h1, h2, P', R', h3, h4, h5⟩)
 ·exact .inl ⟨h1, h2, h3⟩
 ·obtain ⟨c1, c2, c3, c4, c5, c6, c7, c8, c9⟩ := h5
  have hlv := h.lv.put hnx h1 hok hk hb
  refine .inr ⟨h1, h2, P', R', ⟨h3, ?_, ?_, ?_, ?_⟩, h4, ?_, c1, c2, c3, c6⟩
  ·rw [c6, c9, h.sf]
   exact hlv
  ·rw [c5, c6]; exact h.nm
  ·rw [c8, h.had_, h.LL, h.nm, put_one9, c6, joinR_app1]
  ·rw [c7]; exact h.sf
  ·rw [c9, h.sf]
end
theorem crash_full {w : World} {S : Nat → Prop} {gd g n : Nat} {nm : ByteArray} {bs : List Nat} {A : Option Addr} {m c : Nat} {ts : List (Nat × Nat)} (h : DkT w S gd g [(nm, ⟨bs, bs.length⟩)] n) (hgS : ¬ S g) (hn : m = ts.length) (hnm : m ≤ 140737488351232) (hr : RdTe w w.heap.size A ts) (hT : ∀ a, A = some a → 0 < ts.length → ¬ S a.block) (hok : OkT ts) :
  Calls Tryz.prog 21 #[.pointer (some ⟨gd, 0, none⟩), .slice A m c] w fun e w' => e = .returned (.tuple #[]) ∧ ∃ S', DkT w' S' gd g [(nm, ⟨bs, bs.length⟩)] n ∧ Step w S w' S' := by
 obtain ⟨wr, sy, a1, a2, a3⟩ := h.dk
 obtain ⟨d, t, b, b1, b2, b3, b4⟩ := h.tab
 refine (crash_any w a3 hn hnm hr hT hok).mono ?_
 rintro _ w1 ⟨rfl, S', h1, h2⟩
 have e : crashL [(nm, (⟨bs, bs.length⟩ : Fl))] ts = [(nm, ⟨bs, bs.length⟩)] := by
  have e2 : tornF ⟨bs, bs.length⟩ (tearAt ts 0).1 (tearAt ts 0).2 = ⟨bs, bs.length⟩ := by
   unfold tornF
   simp only
   rw [show min bs.length (bs.length + (tearAt ts 0).1) = bs.length by omega, if_neg (by omega), List.take_length]
  show [(nm, tornF ⟨bs, bs.length⟩ (tearAt ts 0).1 (tearAt ts 0).2)] = _
  rw [e2]
 rw [e] at h1
 exact ⟨rfl, S', ⟨⟨wr, sy, a1, a2, h1⟩, ⟨d, t, b, b1, b2, b3, b4.only h2.only hgS⟩⟩, h2⟩
end Go.Proofs.YtholdcgkhicdmaaGreatDoor