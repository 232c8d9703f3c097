/- Several texts in one: SpCovK. -/
import Derived.Test.YtgcfofnlgdfmoaaMd36
import Derived.Test.YtgcfofnlgdfmoaaMd39
import Derived.Test.YtgcfofnlgdfmoaaMd40
import Derived.Test.YtgcfofnlgdfmoaaMd43
/- Layer 8: what SpoolCovers keeps through a round: the spool, the map of acknowledged counts, the lists ahead and behind, the item. -/
namespace Go.Proofs.Ytgcfofnlgdfmoaa
open Go.RowKit Go.Maps

/-- a list that no block of S is part of -/
structure RdA (w : World) (S : Nat → Prop) (A : Option Addr) (M : List Ett) : Prop where
  rd : RdM8 w A M
  row : ∀ a, A = some a → 0 < M.length → ¬ S a.block
  lab : ∀ e ∈ M, ∀ a, e.A = some a → 0 < e.x.l.length → ¬ S a.block
/-- an item in a block, neither of which S has -/
structure ItBox8 (w : World) (S : Nat → Prop) (g : Nat) (x : It) (A : Option Addr) (c : Nat) : Prop where
  box : w.heap[g]? = some (.cells (itC x A c).toArray 60 (0, 0))
  nS : ¬ S g
  rd : RdP w w.heap.size A x.l
  ap : ∀ a, A = some a → 0 < x.l.length → ¬ S a.block
section
variable {w w' : World} {S S' : Nat → Prop} {A : Option Addr} {M : List Ett} {g c b : Nat} {x : It} {es : Array MapEntry} {ck : Nat}
theorem RdN.apart {B : Nat} (h : RdN w B A M) (hS : ∀ k, S k → k < B) : RdA w S A M :=
  ⟨h.rd, fun a ha h0 hk => by have := h.row a ha h0; have := hS _ hk; omega, fun e he a ha h0 hk => by have := h.lab e he a ha h0; have := hS _ hk; omega⟩
theorem RdM8.lt (h : RdM8 w A M) : ∀ a, A = some a → 0 < M.length → a.block < w.heap.size := fun a ha h0 => by
  obtain ⟨b, o, e1, hb, _⟩ := h.rd h0
  rw [ha] at e1
  injection e1 with e1
  rw [e1]; exact hb
theorem RdA.step (h : RdA w S A M) (hs : Step w S w' S') : RdA w' S' A M :=
  ⟨h.rd.only hs.only h.row h.lab, fun a ha h0 hk => (hs.new _ hk).elim (h.row a ha h0) (fun h' => by have := h.rd.lt a ha h0; omega),
    fun e he a ha h0 hk => (hs.new _ hk).elim (h.lab e he a ha h0) (fun h' => by have := rdP_lt (h.rd.ok e he).rd ha h0; omega)⟩
theorem RdA.below (h : RdA w S A M) (hb : Below w.heap.size w w') : RdA w' S A M := ⟨h.rd.below hb, h.row, h.lab⟩
theorem RdA.mapped (h : RdA w S A M) (hg : w.grownBy w' (some b)) (hb : w.heap[b]? = some (.map es ck)) : RdA w' S A M := by
  refine ⟨h.rd.only (only_grown hg) (fun a ha h0 e => ?_) (fun e he a ha h0 => lab_not_map (h.rd.ok e he).rd hb a ha h0), h.row, h.lab⟩
  obtain ⟨e0, he0⟩ : ∃ e, M[0]? = some e := ⟨_, List.getElem?_eq_getElem h0⟩
  obtain ⟨b', o, e1, _, hc⟩ := h.rd.rd h0
  rw [ha] at e1
  injection e1 with e1
  subst e1
  have e : b' = b := e
  subst e
  have := (hc 0 e0 he0).1 0 (.int .u64 e0.i) rfl
  simp [World.cell?, hb] at this
theorem ItBox8.step (h : ItBox8 w S g x A c) (hs : Step w S w' S') : ItBox8 w' S' g x A c := by
  have hgl := (Array.getElem?_eq_some_iff.1 h.box).1
  exact ⟨(hs.only.block g hgl h.nS).trans h.box, fun hk => (hs.new _ hk).elim h.nS (fun h' => by omega), hs.only.rdP h.rd h.ap, fun a ha h0 hk => (hs.new _ hk).elim (h.ap a ha h0) (fun h' => by have := rdP_lt h.rd ha h0; omega)⟩
theorem ItBox8.below (h : ItBox8 w S g x A c) (hb : Below w.heap.size w w') : ItBox8 w' S g x A c :=
  ⟨(hb.block g (Array.getElem?_eq_some_iff.1 h.box).1).trans h.box, h.nS, rdP_keep8 h.rd hb, h.ap⟩
theorem ItBox8.mapped (h : ItBox8 w S g x A c) (hg : w.grownBy w' (some b)) (hb : w.heap[b]? = some (.map es ck)) : ItBox8 w' S g x A c := by
  have hgl := (Array.getElem?_eq_some_iff.1 h.box).1
  have hne : g ≠ b := fun e => by
    have h1 := h.box
    rw [e, hb] at h1
    injection h1 with h1
    cases h1
  exact ⟨(hg.block g hgl (fun e => hne (by injection e))).trans h.box, h.nS, (only_grown hg).rdP h.rd (lab_not_map h.rd hb), h.ap⟩
end
/-- the spool, the map at b1, the two lists, the item -/
structure CK (w0 w : World) (S : Nat → Prop) (s q b1 k : Nat) (X : Sp) (L : List Ett) (F : Nat → Nat) (n1 : Nat) (A6 : Option Addr) (M6 : List Ett) (A8 : Option Addr) (M8 : List Ett) (g : Nat) (y : It) (A4 : Option Addr) (c4 : Nat) : Prop where
  sp : SpW w0 w S s q k X L
  mf : MF w b1 n1 F
  nS : ¬ S b1
  b0 : w0.heap.size ≤ b1
  m6 : RdA w S A6 M6
  m8 : RdA w S A8 M8
  it : ItBox8 w S g y A4 c4
section
variable {w0 w w' : World} {S S' : Nat → Prop} {s q b1 k k' n1 n2 g c4 b2 : Nat} {X X' : Sp} {L L' : List Ett} {F G : Nat → Nat} {A6 A8 A4 : Option Addr} {M6 M8 : List Ett} {y : It} {es : Array MapEntry} {ck : Nat}
theorem CK.below (h : CK w0 w S s q b1 k X L F n1 A6 M6 A8 M8 g y A4 c4) (hb : Below w.heap.size w w') : CK w0 w' S s q b1 k X L F n1 A6 M6 A8 M8 g y A4 c4 :=
  ⟨h.sp.below hb, h.mf.below hb, h.nS, h.b0, h.m6.below hb, h.m8.below hb, h.it.below hb⟩
/-- a store into the map itself -/
theorem CK.first (h : CK w0 w S s q b1 k X L F n1 A6 M6 A8 M8 g y A4 c4) (hg : w.grownBy w' (some b1)) (hm : MF w' b1 n2 G) : CK w0 w' S s q b1 k X L G n2 A6 M6 A8 M8 g y A4 c4 := by
  obtain ⟨es, ck, hb⟩ := h.mf.block
  exact ⟨h.sp.mapped hg hb h.b0 h.nS, hm, h.nS, h.b0, h.m6.mapped hg hb, h.m8.mapped hg hb, h.it.mapped hg hb⟩
/-- a store into another map -/
theorem CK.other (h : CK w0 w S s q b1 k X L F n1 A6 M6 A8 M8 g y A4 c4) (hg : w.grownBy w' (some b2)) (hb : w.heap[b2]? = some (.map es ck)) (h0 : w0.heap.size ≤ b2) (hS : ¬ S b2) (hne : b1 ≠ b2) : CK w0 w' S s q b1 k X L F n1 A6 M6 A8 M8 g y A4 c4 :=
  ⟨h.sp.mapped hg hb h0 hS, h.mf.as (hg.block _ h.mf.lt (fun e => hne (by injection e))), h.nS, h.b0, h.m6.mapped hg hb, h.m8.mapped hg hb, h.it.mapped hg hb⟩
/-- a call that writes to the spool -/
theorem CK.step (h : CK w0 w S s q b1 k X L F n1 A6 M6 A8 M8 g y A4 c4) (h1 : SpAt w' S' s X' L') (h2 : SpOk X' L' k') (h3 : Step w S w' S') (h4 : X'.q = X.q) : CK w0 w' S' s q b1 k' X' L' F n1 A6 M6 A8 M8 g y A4 c4 :=
  ⟨h.sp.step h1 h2 h3 h4, h.mf.step h3 h.nS, fun hk => (h3.new _ hk).elim h.nS (fun h' => by have := h.mf.lt; omega), h.b0, h.m6.step h3, h.m8.step h3, h.it.step h3⟩
/-- the iterator's block, and nothing else, was written -/
theorem CK.iter {r : Nat} {m : Option Nat} {s1 : Nat} {seen : Array Nat} {c0 : Nat} (h : CK w0 w S s q b1 k X L F n1 A6 M6 A8 M8 g y A4 c4) (hg : w.grownBy w' (some r)) (hr : w.heap[r]? = some (.mapIter m s1 seen c0)) (h0 : w0.heap.size ≤ r) (hS : ¬ S r) : CK w0 w' S s q b1 k X L F n1 A6 M6 A8 M8 g y A4 c4 := by
  have lab : ∀ {A : Option Addr} {l : List Pr}, RdP w w.heap.size A l → ∀ a, A = some a → 0 < l.length → a.block ≠ r := fun {A l} h a ha h0 e => by
    obtain ⟨b', o, e1, _, hc⟩ := h h0
    rw [ha] at e1
    injection e1 with e1
    subst e1
    have c0 := (hc 0 _ (List.getElem?_eq_getElem h0)).1
    have e : b' = r := e
    subst e
    simp [World.cell?, hr] at c0
  have rda : ∀ {A : Option Addr} {M : List Ett}, RdA w S A M → RdA w' S A M := fun {A M} h => by
    refine ⟨h.rd.only (only_grown hg) (fun a ha h0 e => ?_) (fun e he a ha h0 => lab (h.rd.ok e he).rd a ha h0), h.row, h.lab⟩
    obtain ⟨e0, he0⟩ : ∃ e, M[0]? = some e := ⟨_, List.getElem?_eq_getElem h0⟩
    obtain ⟨b', o, e1, _, hc⟩ := h.rd.rd h0
    rw [ha] at e1
    injection e1 with e1
    subst e1
    have e : b' = r := e
    subst e
    have := (hc 0 e0 he0).1 0 (.int .u64 e0.i) rfl
    simp [World.cell?, hr] at this
  have hgl := (Array.getElem?_eq_some_iff.1 h.it.box).1
  have hne : g ≠ r := fun e => by
    have h1 := h.it.box
    rw [e, hr] at h1
    injection h1 with h1
    cases h1
  have hb1 : b1 ≠ r := fun e => by
    obtain ⟨es, ck, hb⟩ := h.mf.block
    rw [e, hr] at hb
    injection hb with hb
    cases hb
  exact ⟨⟨h.sp.at_.keep (only_grown hg) (fun i hi e => hS (by have e : i = r := e; rw [← e]; exact hi)) (fun e he a ha h0 => lab (h.sp.at_.ent e he).rd a ha h0), h.sp.ok, h.sp.q, h.sp.new,
    h.sp.bl.grown hg h.sp.bl.size (fun i hi => by injection hi with hi; omega)⟩, h.mf.as (hg.block _ h.mf.lt (fun e => hb1 (by injection e))), h.nS, h.b0, rda h.m6, rda h.m8,
    ⟨(hg.block g hgl (fun e => hne (by injection e))).trans h.it.box, h.it.nS, (only_grown hg).rdP h.it.rd (lab h.it.rd), h.it.ap⟩⟩
end
/-- the loop's relation: k rounds are done -/
structure CAt (w0 w : World) (S : Nat → Prop) (s q b1 k : Nat) (X : Sp) (L : List Ett) (F : Nat → Nat) (n1 : Nat) : Prop where
  sp : SpW w0 w S s q k X L
  mf : MF w b1 n1 F
  nS : ¬ S b1
  b0 : w0.heap.size ≤ b1
  cov : Cov F X.h L
  le : n1 ≤ 10 * k
theorem putR_fail {X : Sp} {L : List Ett} {x : It} {A : Option Addr} {c : Nat} (h : (putR X L x A c).1 ≠ 0) : (putR X L x A c).2.2.1 = 0 ∧ (putR X L x A c).2.2.2.1 = X ∧ (putR X L x A c).2.2.2.2 = L := by
  unfold putR at h ⊢
  split
  · exact ⟨rfl, rfl, rfl⟩
  · rename_i h0
    rw [if_neg h0] at h
    dsimp only at h ⊢
    split
    · exact ⟨rfl, rfl, rfl⟩
    · rename_i h1
      rw [if_neg h1] at h
      split
      · exact ⟨rfl, rfl, rfl⟩
      · rename_i h2
        rw [if_neg h2] at h
        exact absurd rfl h
/-- the first of what waits -/
theorem listSome_new {w0 w : World} {S : Nat → Prop} {s q k : Nat} {X : Sp} {L : List Ett} (t : Nat) (ht : t < 1000) (hs : SpW w0 w S s q k X L) :
    Calls Try.prog 23 #[.pointer (some ⟨s, 0, none⟩), .int .u64 0, .int .i64 (1 + (t : Int))] w fun e w' => ∃ A' c' M, e = .returned (.slice A' M.length c') ∧ SameE (L.take M.length) M ∧ M.length ≤ 1 + t ∧ RdN w' w.heap.size A' M ∧ Below w.heap.size w w' := by
  refine (list_new (N := 0) (1 + (t : Int)) (by omega) (by omega) w hs.at_ hs.ok.riseE).mono ?_
  rintro e w' ⟨A', c', M, m, he, hsm, hrow, hm, hlo, hhi, hb, hnw⟩
  have hm0 : m = 0 := by
    rcases Nat.eq_zero_or_pos m with h | h
    · exact h
    · have h1 := hlo 0 h
      have hl : 0 < L.length := by omega
      have h2 := (hs.ok.ix L[0].i (List.mem_map_of_mem (List.getElem_mem hl))).1
      have : idxE L 0 = L[0].i := by unfold idxE; rw [List.getElem?_eq_getElem hl]; rfl
      omega
  subst hm0
  have ht1 : (1 + (t : Int)).toNat = 1 + t := by omega
  rw [ht1] at hsm
  have hlen := hsm.len
  unfold listE at hsm hlen
  rw [List.drop_zero] at hsm hlen
  rw [List.length_take] at hlen
  have hml : min (1 + t) (L.length - 0) = M.length := by omega
  rw [hml] at hsm
  exact ⟨A', c', M, he, hsm, by omega, ⟨hrow.rd, fun a ha h0 => (hrow.own.lt a.block (by rw [ha]; rfl)).1, hnw⟩, hb⟩
theorem span_C8 (x : It) (A : Option Addr) (c : Nat) (w : World) : Calls Try.prog 25 #[.agg (itC x A c).toArray] w fun e w' => e = .returned (.tuple #[.int .u8 (spO x), .int .u64 (spF x), .int .u64 (spT x)]) ∧ Below w.heap.size w w' := span_any x A x.l.length c w
theorem adv_take {M : List Ett} {F : Nat → Nat} {j : Nat} {e : Ett} (he : M[j]? = some e) : adv (M.take (j + 1)) F = upT (adv (M.take j) F) e.x := by
  rw [List.take_add_one, he, Option.toList_some, adv_app]
  rfl
end Go.Proofs.Ytgcfofnlgdfmoaa
