/- Several texts in one: SpGood. -/
import Derived.Test.YtgcfofnlgdfmoaaMc39
import Derived.Test.YtgcfofnlgdfmoaaMc40
import Derived.Test.YtgcfofnlgdfmoaaMc41
/- Layer 8: the statements' own items (Next) are right and short, and Put of one keeps a spool's bounds. -/
namespace Go.Proofs.Ytgcfofnlgdfmoaa
open Go.RowKit

theorem like_len {x : It} (ho : OkI x) (hr : x.r.size ≤ 100) (hl : (labsB x.l).length ≤ 12) (hll : x.l.length ≤ 3) : (itemB x).length ≤ 300 := by
  have b1 := leb_le10 ho.q
  have b2 := leb_le10 ho.t
  have b3 := leb_le10 ho.gf
  have b4 := leb_le10 ho.gt
  have b5 := leb_le10 (zig_lt ho.v0 ho.v1)
  have b6 := leb_le10 (n := x.r.size) (by omega)
  have b7 := leb_le10 (n := x.l.length) (by omega)
  unfold itemB
  split
  · unfold gapB
    simp only [List.length_append, List.length_cons, List.length_nil]
    omega
  · unfold evB headB tailB
    simp only [List.length_append, List.length_cons, List.length_nil, textB_length]
    omega
theorem small_r (s : Sm) : (smallI s).r.size ≤ 100 := by
  cases hg : s.g with
  | true => rw [smallI_gap s hg]; exact (show (⟨#[]⟩ : ByteArray).size ≤ _ by decide)
  | false => rw [smallI_ev s hg]; exact ruleI_size s
theorem small_labs (s : Sm) : (labsB (smallI s).l).length ≤ 12 := by
  cases hg : s.g with
  | true => rw [smallI_gap s hg]; simp [labsB]
  | false =>
    rw [smallI_ev s hg]
    show (labsB (labsS s (s.l % 4))).length ≤ 12
    rw [labsS_len]; omega
theorem nextI_l (s : Sm) (h : Nat) : (nextI s h).l = (smallI (nextS s)).l := by unfold nextI; split <;> rfl
theorem nextI_r (s : Sm) (h : Nat) : (nextI s h).r = (smallI (nextS s)).r := by unfold nextI; split <;> rfl
theorem nextI_ok {s : Sm} (hs : OkS s) {h : Nat} (hh : h ≤ 1099511627776) : OkI (nextI s h) := by
  have q := smallI_ok (nextS s) (nextS_ok hs)
  unfold nextI
  split
  · exact ⟨q.o, q.q, q.t, q.r, q.l, q.s, q.p, q.v0, q.v1, q.w, q.ga, (show h + 1 < 18446744073709551616 by omega), (show h + 1 + s.m % 3 < 18446744073709551616 by omega)⟩
  · exact ⟨q.o, (show h + 1 < 18446744073709551616 by omega), q.t, q.r, q.l, q.s, q.p, q.v0, q.v1, q.w, q.ga, q.gf, q.gt⟩
theorem nextI_good {s : Sm} (hs : OkS s) {h : Nat} (hh : h ≤ 1099511627776) : ShortI (nextI s h) ∧ (nextI s h).l.length ≤ 3 ∧ (itemB (nextI s h)).length ≤ 300 := by
  have q := smallI_short (nextS s)
  have hl : (nextI s h).l.length ≤ 3 := by rw [nextI_l]; exact smallI_labs _
  exact ⟨⟨by rw [nextI_r]; exact q.r, by rw [nextI_l]; exact q.l⟩, hl, like_len (nextI_ok hs hh) (by rw [nextI_r]; exact small_r _) (by rw [nextI_l]; exact small_labs _) hl⟩


/-- Put of what Next gives -/
theorem putNext_any {S : Nat → Prop} {s k : Nat} {X : Sp} {L : List Ett} (m : Sm) (hm : OkS m) (A : Option Addr) (c : Nat) (w : World) (h : SpAt w S s X L) (hk : SpOk X L k) (hk2 : k < 100000)
    (hA : A = none → (smallI (nextS m)).l.length = 0) (hr : RdP w w.heap.size A (smallI (nextS m)).l) :
    Calls Try.prog 24 #[.pointer (some ⟨s, 0, none⟩), .agg (itC (nextI m (X.h (m.o % 4))) A c).toArray] w fun e w' => ∃ A' c' S', e = .returned (.tuple #[.int .u64 (putR X L (nextI m (X.h (m.o % 4))) A' c').2.1, .int .u64 (putR X L (nextI m (X.h (m.o % 4))) A' c').2.2.1, .int .i64 (putR X L (nextI m (X.h (m.o % 4))) A' c').1]) ∧
      SpAt w' S' s (putR X L (nextI m (X.h (m.o % 4))) A' c').2.2.2.1 (putR X L (nextI m (X.h (m.o % 4))) A' c').2.2.2.2 ∧ SpOk (putR X L (nextI m (X.h (m.o % 4))) A' c').2.2.2.1 (putR X L (nextI m (X.h (m.o % 4))) A' c').2.2.2.2 (k + 1) ∧ Step w S w' S' := by
  have hh := hk.hs (m.o % 4)
  obtain ⟨g1, g2, g3⟩ := nextI_good hm hh
  have h1 := hk.ev
  have h2 := hk.len
  refine (put_any (nextI m (X.h (m.o % 4))) A c w h (nextI_ok hm hh) g1 (by omega) (by omega) (fun h => by rw [nextI_l]; exact hA h) (by rw [nextI_l]; exact hr) (fun i _ => hk.hs i) (by omega) (by omega)).mono ?_
  rintro e w' ⟨A', c', he, S', hs', hst⟩
  exact ⟨A', c', S', he, hs', hk.put _ _ _, hst⟩
/-- a spool of k Puts, all of whose blocks are new since w0 -/
structure SpW (w0 w : World) (S : Nat → Prop) (s q k : Nat) (X : Sp) (L : List Ett) : Prop where
  at_ : SpAt w S s X L
  ok : SpOk X L k
  q : X.q = q
  new : ∀ j, S j → w0.heap.size ≤ j
  bl : Below w0.heap.size w0 w
theorem SpW.below {w0 w w' : World} {S : Nat → Prop} {s q k : Nat} {X : Sp} {L : List Ett} (h : SpW w0 w S s q k X L) (hb : Below w.heap.size w w') : SpW w0 w' S s q k X L :=
  ⟨h.at_.below hb, h.ok, h.q, h.new, h.bl.trans (hb.mono h.bl.size)⟩
theorem putR_q (X : Sp) (L : List Ett) (x : It) (A : Option Addr) (c : Nat) : (putR X L x A c).2.2.2.1.q = X.q := by
  unfold putR
  split
  · rfl
  · dsimp only
    split
    · rfl
    · split
      · rfl
      · rfl
theorem SpW.step {w0 w w' : World} {S S' : Nat → Prop} {s q k k' : Nat} {X X' : Sp} {L L' : List Ett} (h : SpW w0 w S s q k X L) (h1 : SpAt w' S' s X' L') (h2 : SpOk X' L' k') (h3 : Step w S w' S') (h4 : X'.q = X.q) : SpW w0 w' S' s q k' X' L' :=
  ⟨h1, h2, h4.trans h.q, fun j hj => (h3.new j hj).elim (h.new j) (fun h' => Nat.le_trans h.bl.size h'),
    h.bl.trans ⟨h3.only.os, h3.only.tape, h3.only.output, h3.only.size, fun i hi => h3.only.block i (Nat.lt_of_lt_of_le hi h.bl.size) (fun hs => by have := h.new i hs; omega)⟩⟩
end Go.Proofs.Ytgcfofnlgdfmoaa
