/- Layer 11: RecvPlays in numbers: the receiver and the document's own one side by side. -/
import Derived.Test.YtileaoanekphaaaRvRfn
import Derived.Test.YtileaoanekphaaaRvOrd
import Derived.Test.YtileaoanekphaaaItSameRef
import Derived.Test.YtileaoanekphaaaItGet2
namespace Go.Proofs.Ytileaoanekphaaa
open Go.RowKit

theorem few_in {n : Nat} : ∀ {l : List Nat} (_ : l.Nodup) (_ : ∀ x ∈ l, x < n), l.length ≤ n := by
  induction n with
  | zero =>
    intro l _ h
    cases l with
    | nil => exact Nat.le_refl _
    | cons x _ => exact absurd (h x List.mem_cons_self) (by omega)
  | succ n ih =>
    intro l hd h
    have h1 := ih (l := l.erase n) (hd.erase n) (fun x hx => by
      rw [hd.mem_erase_iff] at hx
      have := h x hx.2
      have := hx.1
      omega)
    rw [List.length_erase] at h1
    split at h1 <;> omega
theorem few_win {a W : Nat} {L : List Ett} (hd : L.Pairwise (fun x y => x.i ≠ y.i)) (hw : ∀ e ∈ L, a ≤ e.i ∧ e.i < a + W) : L.length ≤ W := by
  have h := few_in (n := W) (l := L.map fun e => e.i - a) (by
    unfold List.Nodup
    rw [List.pairwise_map]
    refine List.Pairwise.imp_of_mem ?_ hd
    intro x y hx hy hne
    have := hw x hx
    have := hw y hy
    omega) (fun x hx => by
    obtain ⟨e, he, rfl⟩ := List.mem_map.1 hx
    have := hw e he
    omega)
  rwa [List.length_map] at h
theorem posE_get {L : List Ett} {q j : Nat} (h : posE L q = some j) : ∃ e, L[j]? = some e ∧ e.i = q := by
  unfold posE at h
  rw [List.findIdx?_eq_some_iff_getElem] at h
  obtain ⟨hj, h1, _⟩ := h
  exact ⟨L[j], List.getElem?_eq_getElem hj, by simpa using h1⟩
theorem posE_no {L : List Ett} {q : Nat} (h : posE L q = none) : ∀ e ∈ L, e.i ≠ q := by
  unfold posE at h
  rw [List.findIdx?_eq_none_iff] at h
  intro e he
  have := h e he
  simpa using this
/-- the same is held -/
structure Agr (F : Hs) (L : List Ett) : Prop where
  fwd : ∀ e ∈ L, ∃ h, F e.i = some h ∧ h.x = e.x
  bwd : ∀ q h, F q = some h → ∃ e ∈ L, e.i = q
  dist : L.Pairwise (fun a b => a.i ≠ b.i)
theorem Agr.none {F : Hs} {L : List Ett} (h : Agr F L) {q : Nat} (hF : F q = none) : posE L q = none := by
  refine posE_none fun e he hq => ?_
  obtain ⟨y, hy, _⟩ := h.fwd e he
  rw [hq, hF] at hy
  cases hy
theorem Agr.some {F : Hs} {L : List Ett} (h : Agr F L) {q : Nat} {y : Hd} (hF : F q = some y) : ∃ j e, posE L q = some j ∧ j < L.length ∧ L[j]? = some e ∧ e.i = q ∧ e.x = y.x := by
  cases hp : posE L q with
  | none =>
    obtain ⟨e, he, hq⟩ := h.bwd q y hF
    exact absurd hq (posE_no hp e he)
  | some j =>
    obtain ⟨e, hj, hq⟩ := posE_get hp
    obtain ⟨y', hy, hx⟩ := h.fwd e (List.mem_of_getElem? hj)
    rw [hq, hF] at hy
    injection hy with hy
    exact ⟨j, e, rfl, (List.getElem?_eq_some_iff.1 hj).1, hj, hq, by rw [← hx, hy]⟩
theorem Agr.isSome {F : Hs} {L : List Ett} (h : Agr F L) (q : Nat) : (posE L q).isSome = (F q).isSome := by
  cases hF : F q with
  | none => rw [h.none hF]; rfl
  | some y =>
    obtain ⟨j, e, hp, _⟩ := h.some hF
    rw [hp]; rfl
theorem Agr.app {F : Hs} {L : List Ett} (h : Agr F L) {q : Nat} {x : It} {A A2 : Option Addr} {c c2 : Nat} (hF : F q = Option.none) : Agr (putF F q ⟨x, A2, c2⟩) (L ++ [⟨q, x, A, c⟩]) := by
  have hno := posE_no (h.none hF)
  refine ⟨fun e he => ?_, fun i y hy => ?_, ?_⟩
  · rcases List.mem_append.1 he with h1 | h1
    · obtain ⟨y, hy, hx⟩ := h.fwd e h1
      exact ⟨y, by unfold putF; rw [if_neg (hno e h1)]; exact hy, hx⟩
    · rw [List.mem_singleton] at h1
      subst h1
      exact ⟨⟨x, A2, c2⟩, by unfold putF; rw [if_pos rfl], rfl⟩
  · unfold putF at hy
    split at hy
    · rename_i e
      exact ⟨_, List.mem_append_right _ (List.mem_singleton.2 rfl), e.symm⟩
    · obtain ⟨e, he, hi⟩ := h.bwd i y hy
      exact ⟨e, List.mem_append_left _ he, hi⟩
  · rw [List.pairwise_append]
    refine ⟨h.dist, List.pairwise_singleton _ _, fun a ha b hb => ?_⟩
    rw [List.mem_singleton] at hb
    subst hb
    exact hno a ha
theorem mem_cut {L : List Ett} {j : Nat} {e : Ett} (h : e ∈ L.take j ++ L.drop (j + 1)) : e ∈ L := by
  rcases List.mem_append.1 h with h1 | h1
  · exact List.mem_of_mem_take h1
  · exact List.mem_of_mem_drop h1
theorem split_at {L : List Ett} {j : Nat} {y : Ett} (hj : L[j]? = some y) : L = L.take j ++ y :: L.drop (j + 1) := by
  have hjl := (List.getElem?_eq_some_iff.1 hj).1
  conv => lhs; rw [← List.take_append_drop j L, List.drop_eq_getElem_cons hjl]
  rw [(List.getElem?_eq_some_iff.1 hj).2]
theorem Agr.cut {F : Hs} {L : List Ett} (h : Agr F L) {q j : Nat} (hp : posE L q = Option.some j) : Agr (delF F q) (L.take j ++ L.drop (j + 1)) ∧ ∀ e ∈ L.take j ++ L.drop (j + 1), e.i ≠ q := by
  obtain ⟨y, hj, hq⟩ := posE_get hp
  have hs := split_at hj
  have hd := h.dist
  rw [hs, List.pairwise_append] at hd
  have hne : ∀ e ∈ L.take j ++ L.drop (j + 1), e.i ≠ q := fun e he => by
    rcases List.mem_append.1 he with h1 | h1
    · rw [← hq]
      exact hd.2.2 e h1 y List.mem_cons_self
    · rw [← hq]
      exact fun e2 => (List.pairwise_cons.1 hd.2.1).1 e h1 e2.symm
  refine ⟨⟨fun e he => ?_, fun i z hz => ?_, ?_⟩, hne⟩
  · obtain ⟨z, hz, hx⟩ := h.fwd e (mem_cut he)
    exact ⟨z, by unfold delF; rw [if_neg (hne e he)]; exact hz, hx⟩
  · unfold delF at hz
    split at hz
    · cases hz
    · rename_i hi
      obtain ⟨e, he, hei⟩ := h.bwd i z hz
      rw [hs] at he
      rcases List.mem_append.1 he with h1 | h1
      · exact ⟨e, List.mem_append_left _ h1, hei⟩
      · rcases List.mem_cons.1 h1 with h2 | h2
        · rw [h2, hq] at hei
          exact absurd hei.symm hi
        · exact ⟨e, List.mem_append_right _ h2, hei⟩
  · rw [List.pairwise_append]
    exact ⟨hd.1, (List.pairwise_cons.1 hd.2.1).2, fun a ha b hb => hd.2.2 a ha b (List.mem_cons_of_mem _ hb)⟩

/-- the receiver at s and m, the document's own at g: they hold the same -/
structure RP (w w' : World) (s m g W i t o k : Nat) (S : Nat → Prop) (F : Hs) (L : List Ett) : Prop where
  rv : RvAt w' s m ⟨W, t, o⟩ F k
  rm : MrAt w' S g ⟨W, t + 1, o⟩ L
  sS : ¬ S s ∧ ¬ S m
  hF : ∀ q h, F q = some h → ∀ a, h.A = some a → 0 < h.x.l.length → ¬ S a.block
  lF : ∀ e ∈ L, ∀ a, e.A = some a → 0 < e.x.l.length → ¬ Two s m a.block
  ag : Agr F L
  len : k = L.length
  win : ∀ e ∈ L, t + 1 ≤ e.i ∧ e.i < t + 1 + W
  cnt : t ≤ i ∧ o ≤ i
  W64 : 1 ≤ W ∧ W ≤ 64
  bl : Below w.heap.size w w'
  new : (w.heap.size ≤ s ∧ w.heap.size ≤ m) ∧ ∀ k, S k → w.heap.size ≤ k
def RPx (w w' : World) (s m g W i : Nat) : Prop := ∃ t o k S F L, RP w w' s m g W i t o k S F L
section
variable {w w1 w2 : World} {s m g W i t o k : Nat} {S : Nat → Prop} {F : Hs} {L : List Ett}
theorem RP.below (h : RP w w1 s m g W i t o k S F L) (hb : Below w1.heap.size w1 w2) : RP w w2 s m g W i t o k S F L :=
  ⟨h.rv.below hb, h.rm.below hb, h.sS, h.hF, h.lF, h.ag, h.len, h.win, h.cnt, h.W64, h.bl.trans (hb.mono h.bl.size), h.new⟩
theorem RP.more (h : RP w w1 s m g W i t o k S F L) : RP w w1 s m g W (i + 1) t o k S F L :=
  ⟨h.rv, h.rm, h.sS, h.hF, h.lF, h.ag, h.len, h.win, ⟨by have := h.cnt; omega, by have := h.cnt; omega⟩, h.W64, h.bl, h.new⟩
theorem RP.few (h : RP w w1 s m g W i t o k S F L) : L.length ≤ W := few_win h.ag.dist h.win
theorem RP.made (hw1 : Below w.heap.size w w1) (hr : RvAt w1 s m ⟨W, 0, 0⟩ (fun _ => none) 0) (hm : MrAt w1 (fun k => k = g) g ⟨W, 1, 0⟩ []) (hW : 1 ≤ W ∧ W ≤ 64) (hn : w.heap.size ≤ s ∧ w.heap.size ≤ m) (hg : w.heap.size ≤ g ∧ g ≠ s ∧ g ≠ m) :
    RP w w1 s m g W 0 0 0 0 (fun k => k = g) (fun _ => none) [] :=
  ⟨hr, hm, ⟨fun e => hg.2.1 e.symm, fun e => hg.2.2 e.symm⟩, (fun q h e => by cases e), (fun e he => by cases he), ⟨(fun e he => by cases he), (fun q h e => by cases e), List.Pairwise.nil⟩, rfl, (fun e he => by cases he), ⟨Nat.le_refl _, Nat.le_refl _⟩, hW, hw1, ⟨hn, (fun k hk => by rw [hk]; exact hg.1)⟩⟩
theorem RP.notTwo (h : RP w w1 s m g W i t o k S F L) : ∀ k, S k → ¬ Two s m k := fun k hk e => by
  rcases e with e | e
  · rw [e] at hk; exact h.sS.1 hk
  · rw [e] at hk; exact h.sS.2 hk
/-- what is handed to Take: its labels lie in neither's blocks -/
structure XOk (w1 : World) (s m : Nat) (S : Nat → Prop) (x : It) (A : Option Addr) (N : Nat) : Prop where
  n : N = x.l.length
  m12 : N ≤ 12
  nil : A = none → N = 0
  rd : RdP w1 w1.heap.size A x.l
  ok : OkI x
  ap : ∀ a, A = some a → 0 < x.l.length → ¬ S a.block ∧ ¬ Two s m a.block
theorem XOk.below {x : It} {A : Option Addr} {N : Nat} (h : XOk w1 s m S x A N) (hb : Below w1.heap.size w1 w2) : XOk w2 s m S x A N := ⟨h.n, h.m12, h.nil, rdP_keep8 h.rd hb, h.ok, h.ap⟩
/-- Take, at both -/
theorem rp_take {q : Nat} {x : It} {A : Option Addr} {N c : Nat} (h : RP w w1 s m g W i t o k S F L) (hx : XOk w1 s m S x A N) (hq : q < 18446744073709551616) (hi : i ≤ 1000) :
    Calls Try.prog 12 #[.pointer (some ⟨s, 0, none⟩), .int .u64 q, .agg #[.bool x.g, .int .u8 x.o, .int .u64 x.q, .int .u64 x.t, .string x.r, .slice A N c, .int .u8 x.s, .int .u8 x.p, .int .i64 x.v, .int .u8 x.w, .int .u8 x.ga, .int .u64 x.gf, .int .u64 x.gt]] w1 fun e w2 => ∃ z : Int, e = .returned (.int .i64 z) ∧ Below w.heap.size w w2 ∧ Only (Two s m) w1 w2 ∧
      ∀ W2, Below w2.heap.size w2 W2 → Calls Try.prog 13 #[.pointer (some ⟨g, 0, none⟩), .int .u64 q, .agg #[.bool x.g, .int .u8 x.o, .int .u64 x.q, .int .u64 x.t, .string x.r, .slice A N c, .int .u8 x.s, .int .u8 x.p, .int .i64 x.v, .int .u8 x.w, .int .u8 x.ga, .int .u64 x.gf, .int .u64 x.gt]] W2 fun e w3 => e = .returned (.int .i64 z) ∧ RPx w w3 s m g W (i + 1) ∧ Only S W2 w3 := by
  obtain ⟨hc1, hc2⟩ := h.cnt
  obtain ⟨hW1, hW2⟩ := h.W64
  have hfew := h.few
  have hmax := hx.m12
  by_cases ho : q < t + 1 ∨ (F q).isSome = true
  · refine (rtake_old w1 h.rv rfl (show t ≤ _ by omega) (show o ≤ _ by omega) hq ho).mono ?_
    rintro e w2 ⟨rfl, h1, h2⟩
    have hbl : Below w.heap.size w w2 := only_two_below h.bl h2 h.new.1.1 h.new.1.2
    refine ⟨17, rfl, hbl, h2, fun W2 hb => ?_⟩
    have hm2 := (h.rm.keep h2 h.notTwo (fun e he a ha h0 => h.lF e he a ha h0)).below hb
    refine (mtake_old W2 hm2 (show o ≤ _ by omega) (by rw [h.ag.isSome]; exact ho)).mono ?_
    rintro e w3 ⟨rfl, h3, h4⟩
    have hr3 := (h1.below hb).keep h4.only h.sS.1 h.sS.2 (fun q y hq a ha h0 => h.hF q y hq a ha h0)
    exact ⟨rfl, ⟨t, o + 1, k, S, F, L, hr3, h3, h.sS, h.hF, h.lF, h.ag, h.len, h.win, ⟨by omega, by omega⟩, h.W64, (hbl.trans (hb.mono hbl.size)).trans (h4.only.below (Nat.le_trans hbl.size hb.size) (fun k hk => h.new.2 k hk)), h.new⟩, h4.only⟩
  · have hlt : t + 1 ≤ q := by omega
    have hF : F q = none := by
      cases e : F q with
      | none => rfl
      | some y => exact absurd (.inr (by rw [e]; rfl)) ho
    have hP := h.ag.none hF
    by_cases hf : W ≤ q - (t + 1)
    · refine (rtake_far w1 h.rv rfl (show t ≤ _ by omega) hW2 hq hlt hF hf).mono ?_
      rintro e w2 ⟨rfl, h1⟩
      have hbl : Below w.heap.size w w2 := h.bl.trans (h1.mono h.bl.size)
      refine ⟨19, rfl, hbl, Only.of_below h1 _, fun W2 hb => ?_⟩
      have hrp := (h.below h1).below hb
      refine (mtake_far W2 hrp.rm (show t + 1 ≤ _ by omega) hW2 hlt hP hf).mono ?_
      rintro e w3 ⟨rfl, h3⟩
      exact ⟨rfl, ⟨t, o, k, S, F, L, (hrp.below h3).more⟩, Only.of_below h3 S⟩
    · have hf2 : q - (t + 1) < W := by omega
      by_cases hz : itemN x = 0
      · refine (rtake_ok w1 h.rv rfl (show t ≤ _ by omega) hW2 (by rw [h.len]; omega) hq hlt hF hf2 hz hx.n hx.nil (by omega) hx.rd).mono ?_
        rintro e w2 ⟨rfl, A2, c2, h1, hnew, h2⟩
        have hbl : Below w.heap.size w w2 := only_two_below h.bl h2 h.new.1.1 h.new.1.2
        refine ⟨0, rfl, hbl, h2, fun W2 hb => ?_⟩
        have hm2 := (h.rm.keep h2 h.notTwo (fun e he a ha h0 => h.lF e he a ha h0)).below hb
        have hrd2 : RdP W2 W2.heap.size A x.l := rdP_keep8 (h2.rdP hx.rd (fun a ha h0 => (hx.ap a ha h0).2)) hb
        refine (mtake_ok W2 hm2 (show t + 1 ≤ _ by omega) hW2 hlt hP hf2 (by omega) hz hx.n (by omega) hx.nil hrd2 hx.ok (fun a ha h0 => (hx.ap a ha h0).1)).mono ?_
        rintro e w3 ⟨rfl, S', h3, h4⟩
        have hputF : ∀ j y, putF F q ⟨x, A2, c2⟩ j = some y → ∀ a, y.A = some a → 0 < y.x.l.length → ¬ S a.block := fun j y hy a ha h0 => by
          unfold putF at hy
          split at hy
          · injection hy with hy
            subst hy
            have h5 := hnew a ha h0
            exact fun hS => by have := h.rm.lt _ hS; omega
          · exact h.hF j y hy a ha h0
        have hr3 := (h1.below hb).keep h4.only h.sS.1 h.sS.2 hputF
        have hsz2 := h2.size
        have hszW := hb.size
        refine ⟨rfl, ⟨t, o, k + 1, S', putF F q ⟨x, A2, c2⟩, L ++ [⟨q, x, A, c⟩], hr3, h3, ⟨fun hs => ?_, fun hs => ?_⟩, fun j y hy a ha h0 hS => ?_, fun e he => ?_, h.ag.app hF, by rw [List.length_append, h.len]; rfl, fun e he => ?_, ⟨by omega, by omega⟩, h.W64, (hbl.trans (hb.mono hbl.size)).trans (h4.only.below (Nat.le_trans hbl.size hb.size) (fun k hk => h.new.2 k hk)), ⟨h.new.1, fun k hk => ?_⟩⟩, h4.only⟩
        · rcases h4.new _ hs with h5 | h5
          · exact h.sS.1 h5
          · have := h.rv.slt; omega
        · rcases h4.new _ hs with h5 | h5
          · exact h.sS.2 h5
          · have := h.rv.mi.lt; omega
        · rcases h4.new _ hS with h5 | h5
          · exact hputF j y hy a ha h0 h5
          · have := rdP_lt ((h1.below hb).ent j y hy).rd ha h0
            omega
        · rcases List.mem_append.1 he with h5 | h5
          · exact h.lF e h5
          · rw [List.mem_singleton] at h5
            subst h5
            exact fun a ha h0 => (hx.ap a ha h0).2
        · rcases List.mem_append.1 he with h5 | h5
          · exact h.win e h5
          · rw [List.mem_singleton] at h5
            subst h5
            exact ⟨hlt, by show q < t + 1 + W; omega⟩
        · rcases h4.new k hk with h5 | h5
          · exact h.new.2 k h5
          · exact Nat.le_trans hbl.size (Nat.le_trans hb.size h5)
      · obtain ⟨z, hzz⟩ : ∃ z, itemN x = z := ⟨_, rfl⟩
        rw [hzz] at hz
        refine (rtake_bad w1 h.rv rfl (show t ≤ _ by omega) hW2 hq hlt hF hf2 hzz hz hx.n (by unfold maxLen; omega) hx.rd).mono ?_
        rintro e w2 ⟨rfl, h1⟩
        have hbl : Below w.heap.size w w2 := h.bl.trans (h1.mono h.bl.size)
        refine ⟨z, rfl, hbl, Only.of_below h1 _, fun W2 hb => ?_⟩
        have hrp := (h.below h1).below hb
        refine (mtake_bad W2 hrp.rm (show t + 1 ≤ _ by omega) hW2 hlt hP hf2 hzz hz hx.n (by unfold maxLen; omega) (rdP_keep8 (rdP_keep8 hx.rd h1) hb) hx.ok).mono ?_
        rintro e w3 ⟨rfl, h3⟩
        exact ⟨rfl, ⟨t, o, k, S, F, L, (hrp.below h3).more⟩, Only.of_below h3 S⟩
/-- Next, at both -/
theorem rp_next (h : RP w w1 s m g W i t o k S F L) (hi : i ≤ 1000) :
    Calls Try.prog 9 #[.pointer (some ⟨s, 0, none⟩)] w1 fun e w2 => ∃ z : Int, e = .returned (.int .i64 z) ∧
      Calls Try.prog 10 #[.pointer (some ⟨g, 0, none⟩)] w2 fun e w3 => e = .returned (.int .i64 z) ∧ RPx w w3 s m g W (i + 1) := by
  obtain ⟨hc1, hc2⟩ := h.cnt
  cases hF : F (t + 1) with
  | none =>
    refine (rnext_none w1 h.rv rfl (show t ≤ _ by omega) hF).mono ?_
    rintro e w2 ⟨rfl, h1⟩
    have hrp := h.below h1
    refine ⟨14, rfl, (mnext_none w2 hrp.rm (h.ag.none hF)).mono ?_⟩
    rintro e w3 ⟨rfl, h3⟩
    exact ⟨rfl, t, o, k, S, F, L, (hrp.below h3).more⟩
  | some y =>
    obtain ⟨j, e0, hp, hj, -, -, -⟩ := h.ag.some hF
    obtain ⟨hag, hne⟩ := h.ag.cut hp
    refine (rnext_some w1 h.rv rfl (show t ≤ _ by omega) hF).mono ?_
    rintro e w2 ⟨rfl, h1, h2⟩
    have hbl : Below w.heap.size w w2 := only_two_below h.bl h2 h.new.1.1 h.new.1.2
    have hm2 := h.rm.keep h2 h.notTwo (fun e he a ha h0 => h.lF e he a ha h0)
    refine ⟨0, rfl, (mnext_some w2 hm2 (show t + 1 ≤ _ by omega) hp hj).mono ?_⟩
    rintro e w3 ⟨rfl, S', h3, h4⟩
    have hdel : ∀ q z, delF F (t + 1) q = some z → F q = some z := fun q z hz => by
      unfold delF at hz
      split at hz
      · cases hz
      · exact hz
    have hr3 := h1.keep h4.only h.sS.1 h.sS.2 (fun q y hy a ha h0 => h.hF q y (hdel q y hy) a ha h0)
    have hsz2 := h2.size
    refine ⟨rfl, t + 1, o, k - 1, S', delF F (t + 1), L.take j ++ L.drop (j + 1), hr3, h3, ⟨fun hs => ?_, fun hs => ?_⟩, fun q y hy a ha h0 hS => ?_, fun e he => h.lF e (mem_cut he), hag, ?_, fun e he => ?_, ⟨by omega, by omega⟩, h.W64, hbl.trans (h4.only.below hbl.size (fun k hk => h.new.2 k hk)), ⟨h.new.1, fun k hk => ?_⟩⟩
    · rcases h4.new _ hs with h5 | h5
      · exact h.sS.1 h5
      · have := h.rv.slt; omega
    · rcases h4.new _ hs with h5 | h5
      · exact h.sS.2 h5
      · have := h.rv.mi.lt; omega
    · rcases h4.new _ hS with h5 | h5
      · exact h.hF q y (hdel q y hy) a ha h0 h5
      · have := rdP_lt (h1.ent q y hy).rd ha h0
        omega
    · rw [List.length_append, List.length_take, List.length_drop, h.len]; omega
    · have h5 := h.win e (mem_cut he)
      have h6 := hne e he
      omega
    · rcases h4.new k hk with h5 | h5
      · exact h.new.2 k h5
      · exact Nat.le_trans hbl.size h5
/-- the bits are the same -/
theorem rp_bits (h : RP w w1 s m g W i t o k S F L) : bitsN (laidB L (t + 1)) 64 = bitsN (heldB F (t + 1)) (W - 1) := by
  obtain ⟨hW1, hW2⟩ := h.W64
  have e : laidB L (t + 1) = heldB F (t + 1) := by
    funext j
    exact h.ag.isSome _
  rw [e]
  have h1 : (64 : Nat) = (W - 1) + (64 - (W - 1)) := by omega
  rw [h1]
  refine bitsN_more _ _ _ fun j hj _ => ?_
  unfold heldB
  cases hF : F (t + 1 + 1 + j) with
  | none => rfl
  | some y =>
    obtain ⟨e, he, hi⟩ := h.ag.bwd _ _ hF
    have := h.win e he
    omega
end
end Go.Proofs.Ytileaoanekphaaa
