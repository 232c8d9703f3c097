/- Layer 7: a journal over a disk that has its file and no other: what each call leaves. -/
import Derived.Test.YtgcfofnlgdfmoaaJlOpen
import Derived.Test.YtgcfofnlgdfmoaaDkCrashAny
import Derived.Test.YtgcfofnlgdfmoaaJlAwake
namespace Go.Proofs.Ytgcfofnlgdfmoaa
open Go.RowKit Go.Maps

/-- the disk has one file, or none, which has these bytes, of which so many are synced -/
def One (LL : List (ByteArray × Fl)) (b : List Nat) (s : Nat) : Prop := (LL = [] ∧ b = [] ∧ s = 0) ∨ LL = [(nmJ, ⟨b, s⟩)]
theorem One.had {LL : List (ByteArray × Fl)} {b : List Nat} {s : Nat} (h : One LL b s) : had LL nmJ = ⟨b, s⟩ := by
  rcases h with ⟨rfl, rfl, rfl⟩ | rfl
  · rfl
  · unfold Go.Proofs.Ytgcfofnlgdfmoaa.had
    rw [findP_one]
    rfl
theorem One.put {LL : List (ByteArray × Fl)} {b : List Nat} {s : Nat} (h : One LL b s) (f : Fl) : putP LL nmJ f = [(nmJ, f)] := by
  rcases h with ⟨rfl, rfl, rfl⟩ | rfl
  · rfl
  · unfold putP
    rw [show delP [(nmJ, (⟨b, s⟩ : Fl))] nmJ = [] from by simp [delP, eqS_refl]]
    rfl
theorem One.few {LL : List (ByteArray × Fl)} {b : List Nat} {s : Nat} (h : One LL b s) : LL.length < 64 := by
  rcases h with ⟨rfl, rfl, rfl⟩ | rfl
  · decide
  · show 1 < 64; decide
theorem tornF_nil (ke bi : Nat) : tornF ⟨[], 0⟩ ke bi = ⟨[], 0⟩ := by
  unfold tornF
  simp
theorem One.crash {LL : List (ByteArray × Fl)} {b : List Nat} {s : Nat} (h : One LL b s) (ts : List (Nat × Nat)) : One (crashL LL ts) (tornF ⟨b, s⟩ (tearAt ts 0).1 (tearAt ts 0).2).by_ (tornF ⟨b, s⟩ (tearAt ts 0).1 (tearAt ts 0).2).syn := by
  rcases h with ⟨rfl, rfl, rfl⟩ | rfl
  · rw [tornF_nil]
    exact .inl ⟨rfl, rfl, rfl⟩
  · exact .inr rfl
/-- what a call changes -/
structure Mv (S : Nat → Prop) (w : World) (S' : Nat → Prop) (w' : World) (g : Nat) : Prop where
  only : Only (fun k => S k ∨ k = g) w w'
  new : ∀ k, S' k → S k ∨ w.heap.size ≤ k
theorem RsS.mv {w w' : World} {S S' : Nat → Prop} {g : Nat} {v : Value} {L : List (List Nat)} (h : RsS S w g v L) (hm : Mv S w S' w' g) : RsS S' w' g v L := h.any hm.only (fun _ hi => hi) hm.new
theorem JAt.mv {w w' : World} {S S' : Nat → Prop} {g jb gd : Nat} {s : ByteArray} (h : JAt w jb gd g s) (hm : Mv S w S' w' g) (h1 : ¬ S jb) (h2 : jb ≠ g) : JAt w' jb gd g s := h.only hm.only (fun h => h.elim h1 h2)
theorem Mv.out {w w' : World} {S S' : Nat → Prop} {g jb : Nat} (hm : Mv S w S' w' g) (h : ¬ S jb) (hl : jb < w.heap.size) : ¬ S' jb := fun hs => by
  rcases hm.new jb hs with h' | h'
  · exact h h'
  · omega
/-- a disk with one file at most, and a table; all of it is new since w0 -/
structure DT (w0 w : World) (gd g : Nat) (S : Nat → Prop) (b : List Nat) (s wr sy t u : Nat) : Prop where
  dk : ∃ LL wr' sy', wr' ≤ wr ∧ sy' ≤ sy ∧ Disk w S gd LL wr' sy' ∧ One LL b s
  tab : ∃ d t' u', d ≤ 1 ∧ t' ≤ t ∧ u' ≤ u ∧ Tab w g d t' u'
  SB : ∀ i, S i → w0.heap.size ≤ i
  Sg : ¬ S g
  gB : w0.heap.size ≤ g
  bl : Below w0.heap.size w0 w
section
variable {w0 w w' : World} {gd g : Nat} {S S' : Nat → Prop} {b : List Nat} {s wr sy t u : Nat}
theorem DT.lt (h : DT w0 w gd g S b s wr sy t u) : ∀ i, S i → i < w.heap.size := by
  obtain ⟨LL, wr', sy', h1, h2, h3, h4⟩ := h.dk
  exact h3.ltA
theorem DT.glt (h : DT w0 w gd g S b s wr sy t u) : g < w.heap.size := by
  obtain ⟨d, t', u', h1, h2, h3, h4⟩ := h.tab
  exact h4.lt
theorem DT.gdS (h : DT w0 w gd g S b s wr sy t u) : S gd := by
  obtain ⟨LL, wr', sy', h1, h2, ⟨E, mo, _, h3, _⟩, h4⟩ := h.dk
  exact h3.gS
theorem DT.ok (h : DT w0 w gd g S b s wr sy t u) : OkB b ∧ s ≤ b.length ∧ b.length ≤ 1048576 := by
  obtain ⟨LL, wr', sy', h1, h2, h3, h4⟩ := h.dk
  rcases h4 with ⟨rfl, rfl, rfl⟩ | rfl
  · exact ⟨fun x hx => by simp at hx, Nat.le_refl _, by decide⟩
  · have := h3.fileOk (findP_one _ _)
    exact ⟨this.1, this.2.2, this.2.1⟩
theorem DT.below_ (h : DT w0 w gd g S b s wr sy t u) (ho : Only (fun k => S k ∨ k = g) w w') : Below w0.heap.size w0 w' :=
  h.bl.trans ⟨ho.os, ho.tape, ho.output, ho.size, fun k hk => ho.block k (Nat.lt_of_lt_of_le hk h.bl.size) (fun e => by
    rcases e with e | e
    · have := h.SB k e; omega
    · have := h.gB; omega)⟩
theorem DT.weak (h : DT w0 w gd g S b s wr sy t u) {wr2 sy2 t2 u2 : Nat} (h1 : wr ≤ wr2) (h2 : sy ≤ sy2) (h3 : t ≤ t2) (h4 : u ≤ u2) : DT w0 w gd g S b s wr2 sy2 t2 u2 := by
  obtain ⟨LL, wr', sy', a1, a2, a3, a4⟩ := h.dk
  obtain ⟨d, t', u', b1, b2, b3, b4⟩ := h.tab
  exact ⟨⟨LL, wr', sy', by omega, by omega, a3, a4⟩, ⟨d, t', u', b1, by omega, by omega, b4⟩, h.SB, h.Sg, h.gB, h.bl⟩
theorem DT.beneath (h : DT w0 w gd g S b s wr sy t u) (hb : Below w.heap.size w w') : DT w0 w' gd g S b s wr sy t u := by
  obtain ⟨LL, wr', sy', a1, a2, a3, a4⟩ := h.dk
  obtain ⟨d, t', u', b1, b2, b3, b4⟩ := h.tab
  exact ⟨⟨LL, wr', sy', a1, a2, a3.below hb, a4⟩, ⟨d, t', u', b1, b2, b3, b4.below hb⟩, h.SB, h.Sg, h.gB, h.bl.trans (hb.mono h.bl.size)⟩
/-- where the disk alone was written -/
theorem DT.leaves (h : DT w0 w gd g S b s wr sy t u) {w1 : World} (hb : Below w.heap.size w w1) {LL' : List (ByteArray × Fl)} {b' : List Nat} {s' wr' sy' : Nat} (hd : Leaves w1 w' S gd LL' wr' sy') (ho : One LL' b' s') (h1 : wr' ≤ wr) (h2 : sy' ≤ sy) :
    ∃ S', DT w0 w' gd g S' b' s' wr sy t u ∧ Mv S w S' w' g := by
  obtain ⟨S', hdk, hst⟩ := hd
  have hm : Mv S w S' w' g := ⟨(Only.of_below hb (fun k => S k ∨ k = g)).trans hst.only (fun i hi => .inl (.inl hi)), fun k hk => (hst.new k hk).imp id (fun h' => Nat.le_trans hb.size h')⟩
  obtain ⟨d, t', u', b1, b2, b3, b4⟩ := h.tab
  have hg := h.glt
  refine ⟨S', ⟨⟨LL', wr', sy', h1, h2, hdk, ho⟩, ⟨d, t', u', b1, b2, b3, (b4.below hb).only hst.only h.Sg⟩, fun i hi => ?_, hm.out h.Sg hg, h.gB, h.below_ hm.only⟩, hm⟩
  rcases hm.new i hi with h' | h'
  · exact h.SB i h'
  · exact Nat.le_trans h.bl.size h'
end

/-- Append -/
theorem jd_append {w0 : World} {jb gd g : Nat} {S : Nat → Prop} {b : List Nat} {s wr sy t u : Nat} (A : Option Addr) (n c : Nat) (l : List Nat) (w : World) (h : DT w0 w gd g S b s wr sy t u) (hj : JAt w jb gd g nmJ) (hSj : ¬ S jb) (hjg : jb ≠ g)
    (hn : n = l.length) (hm : n ≤ 524288) (hr : RdB w w0.heap.size A l) (hok : OkB l) (hmax : b.length + (n + 8) ≤ 1048576) (ht : t < 1000000000) (hu : u < 1000000000000) (hwr : wr ≤ 1000000) :
    Calls Try.prog 13 #[.pointer (some ⟨jb, 0, none⟩), .slice A n c] w fun e w' => e = .returned (.int .i64 0) ∧ ∃ S', DT w0 w' gd g S' (b ++ laidR l) s (wr + 1) sy (t + 1) (u + 4 + n) ∧ Mv S w S' w' g ∧ JAt w' jb gd g nmJ := by
  obtain ⟨LL, wr', sy', a1, a2, a3, a4⟩ := h.dk
  obtain ⟨d, t', u', b1, b2, b3, b4⟩ := h.tab
  have hoff : Off A g l := fun h0 a ha e => by
    obtain ⟨b', o', e', hb', _⟩ := hr h0
    rw [ha] at e'
    injection e' with e'
    rw [e'] at e
    have e : b' = g := e
    have := h.gB
    omega
  refine (jappend_any b1 A n c l w0.heap.size w hj hjg b4 hn hm (by omega) (by omega) hr h.bl.size hok hoff 0 (fun w1 w' => Leaves w1 w' S gd (putP LL nmJ ⟨(had LL nmJ).by_ ++ laidR l, (had LL nmJ).syn⟩) (wr' + 1) sy') ?_).mono ?_
  · intro v w1 hown hti hT1 hJ1
    obtain ⟨Av, cv, rfl⟩ := ownB_slice hown
    obtain ⟨y1, y2, -⟩ := rdB_of_own hown
    have hdk : Disk w1 S gd LL wr' sy' := a3.keep hti.only (fun k hk e => h.Sg (by have e : k = g := e; rw [e] at hk; exact hk))
    refine (append_ok (l := laidR l) w1 hdk (by decide +kernel) nmJ_size (fun _ => a4.few) (by rw [laidR_length, hn]) (laidR_ok hok) (by rw [a4.had]; exact hmax) y1 (by omega)).mono ?_
    rintro e w2 ⟨rfl, S2, hD2, hs2⟩
    exact ⟨rfl, hJ1.only hs2.only hSj, S2, hD2, hs2⟩
  · rintro e w2 ⟨rfl, w1, hti, hT1, hJ2, S2, hD2, hs2⟩
    have ho1 : Only (fun k => S k ∨ k = g) w w1 := hti.only.trans (Only.refl (fun _ => False) w1) (fun _ h => h.elim) |> fun h => ⟨h.os, h.tape, h.output, h.size, fun k hk hne => h.block k hk (fun e => hne (.inr e))⟩
    have hm : Mv S w S2 w2 g := ⟨ho1.trans hs2.only (fun i hi => .inl (.inl hi)), fun k hk => (hs2.new k hk).imp id (fun h' => Nat.le_trans ho1.size h')⟩
    rw [a4.had, a4.put] at hD2
    refine ⟨rfl, S2, ⟨⟨_, wr' + 1, sy', by omega, a2, hD2, .inr rfl⟩, ⟨1, t' + 1, u' + 4 + n, Nat.le_refl _, by omega, by omega, hT1.only hs2.only h.Sg⟩, fun i hi => ?_, hm.out h.Sg h.glt, h.gB, h.below_ hm.only⟩, hm, hJ2⟩
    rcases hm.new i hi with h' | h'
    · exact h.SB i h'
    · exact Nat.le_trans h.bl.size h'

/-- Sync -/
theorem jd_sync {w0 : World} {jb gd g : Nat} {S : Nat → Prop} {b : List Nat} {s wr sy t u : Nat} (w : World) (h : DT w0 w gd g S b s wr sy t u) (hj : JAt w jb gd g nmJ) (hSj : ¬ S jb) (hsy : sy ≤ 1000000) :
    Calls Try.prog 14 #[.pointer (some ⟨jb, 0, none⟩)] w fun e w' => e = .returned (.int .i64 0) ∧ ∃ S', DT w0 w' gd g S' b b.length wr (sy + 1) t u ∧ Mv S w S' w' g ∧ JAt w' jb gd g nmJ := by
  obtain ⟨LL, wr', sy', a1, a2, a3, a4⟩ := h.dk
  have hok := h.ok
  have idle : (hs : s = b.length) → (∀ w1 : World, Below w.heap.size w w1 → Calls Try.prog 43 #[.pointer (some ⟨gd, 0, none⟩), .string nmJ] w1 fun e w' => e = .returned (.int .i64 0) ∧ Below w1.heap.size w1 w') →
      Calls Try.prog 14 #[.pointer (some ⟨jb, 0, none⟩)] w fun e w' => e = .returned (.int .i64 0) ∧ ∃ S', DT w0 w' gd g S' b b.length wr (sy + 1) t u ∧ Mv S w S' w' g ∧ JAt w' jb gd g nmJ := by
    intro hs hL
    refine (jsync_idle w hj hL).mono ?_
    rintro e w1 ⟨rfl, hb⟩
    refine ⟨rfl, S, ?_, ⟨Only.of_below hb _, fun k hk => .inl hk⟩, hj.below hb⟩
    rw [← hs]
    exact (h.beneath hb).weak (Nat.le_refl _) (by omega) (Nat.le_refl _) (Nat.le_refl _)
  rcases a4 with ⟨rfl, rfl, rfl⟩ | rfl
  · exact idle rfl fun w1 hb => loose_none nmJ w1 (a3.below hb) nmJ_size rfl
  · have hL : ∀ w1 : World, Below w.heap.size w w1 → Calls Try.prog 43 #[.pointer (some ⟨gd, 0, none⟩), .string nmJ] w1 fun e w' => e = .returned (.int .i64 ((b.length - s : Nat) : Int)) ∧ Below w1.heap.size w1 w' :=
      fun w1 hb => loose_some w1 (a3.below hb) nmJ_size (findP_one _ _)
    by_cases h0 : b.length - s = 0
    · rw [h0] at hL
      exact idle (by omega) hL
    · refine (jsync_busy w hj (by omega) hL (fun w1 w' => Leaves w1 w' S gd [(nmJ, ⟨b, b.length⟩)] wr' (sy' + 1)) ?_).mono ?_
      · intro w1 hb
        refine (sync_some w1 (a3.below hb) nmJ_size (findP_one _ _) (by omega)).mono ?_
        rintro e w2 ⟨rfl, S2, hD2, hs2⟩
        rw [One.put (b := b) (s := s) (.inr rfl)] at hD2
        exact ⟨rfl, (hj.below hb).only hs2.only hSj, S2, hD2, hs2⟩
      · rintro e w2 ⟨rfl, w1, hb, hJ2, hl⟩
        obtain ⟨S', h1, h2⟩ := (h.weak (Nat.le_refl wr) (Nat.le_succ sy) (Nat.le_refl t) (Nat.le_refl u)).leaves hb hl (.inr rfl) a1 (by omega)
        exact ⟨rfl, S', h1, h2, hJ2⟩

/-- Crash -/
theorem jd_crash {w0 : World} {gd g : Nat} {S : Nat → Prop} {b : List Nat} {s wr sy t u : Nat} {A : Option Addr} {n c : Nat} {ts : List (Nat × Nat)} (w : World) (h : DT w0 w gd g S b s wr sy t u) (hn : n = ts.length) (hnm : n ≤ 140737488351232) (hr : RdT w w.heap.size A ts)
    (hT : ∀ a, A = some a → 0 < ts.length → ¬ S a.block) (hok : OkT ts) :
    Calls Try.prog 15 #[.pointer (some ⟨gd, 0, none⟩), .slice A n c] w fun e w' => e = .returned (.tuple #[]) ∧ ∃ S', DT w0 w' gd g S' (tornF ⟨b, s⟩ (tearAt ts 0).1 (tearAt ts 0).2).by_ (tornF ⟨b, s⟩ (tearAt ts 0).1 (tearAt ts 0).2).syn wr sy t u ∧ Mv S w S' w' g := by
  obtain ⟨LL, wr', sy', a1, a2, a3, a4⟩ := h.dk
  refine (crash_any w a3 hn hnm hr hT hok).mono ?_
  rintro e w1 ⟨rfl, hl⟩
  exact ⟨rfl, h.leaves (Below.refl _ _) hl (a4.crash ts) a1 a2⟩

/-- Open -/
theorem jd_open {w0 : World} {gd g : Nat} {S : Nat → Prop} {b : List Nat} {s wr sy t u z : Nat} {G : List (List Nat)} (w : World) (h : DT w0 w gd g S b s wr sy t u) (hz : scanJ b = (G, z)) (ht : t < 100000000) (hu : u < 100000000000) (hsy : sy ≤ 1000000) :
    Calls Try.prog 11 #[.pointer (some ⟨gd, 0, none⟩), .pointer (some ⟨g, 0, none⟩), .string nmJ] w fun e w' => ∃ A c, e = .returned (.tuple #[.pointer (some ⟨w.heap.size, 0, none⟩), .slice A G.length c, .int .i64 0]) ∧ ∃ S', RsS S' w' g (.slice A G.length c) G ∧
      DT w0 w' gd g S' (b.take z) z wr (sy + 1) (t + b.length + 1) (u + 2 * b.length) ∧ Mv S w S' w' g ∧ JAt w' w.heap.size gd g nmJ ∧ ¬ S' w.heap.size := by
  obtain ⟨LL, wr', sy', a1, a2, a3, a4⟩ := h.dk
  obtain ⟨d, t', u', b1, b2, b3, b4⟩ := h.tab
  have hlt := h.lt
  have hgl := h.glt
  rcases a4 with ⟨rfl, rfl, rfl⟩ | rfl
  · rw [scanJ_none (by rfl)] at hz
    injection hz with h1 h2
    subst h1; subst h2
    refine (jopen_none nmJ w a3 nmJ_size rfl).mono ?_
    rintro e w1 ⟨jb, rfl, rfl, hJ, hb⟩
    exact ⟨none, 0, rfl, S, RsS.nil _ _ _, (h.beneath hb).weak (Nat.le_refl _) (by omega) (by omega) (by omega), ⟨Only.of_below hb _, fun k hk => .inl hk⟩, hJ, fun hs => by have := hlt _ hs; omega⟩
  · refine (jopen_rows nmJ ⟨b, s⟩ w a3 b4 b1 h.Sg (by omega) (by omega) nmJ_size (findP_one _ _) (by omega)).mono ?_
    rw [show (Fl.mk b s).by_ = b from rfl, hz]
    rintro e w1 ⟨v, S1, rfl, hRs, hR, hnj, hO⟩
    obtain ⟨A, c, rfl⟩ : ∃ A c, v = .slice A G.length c := hRs.slice
    have hm : Mv S w S1 w1 g := ⟨hO.only, hO.new⟩
    have hdk := hO.dk
    rw [One.put (b := b) (s := s) (.inr rfl)] at hdk
    obtain ⟨d2, t2, u2, c1, c2, c3, c4⟩ := hO.tab
    refine ⟨A, c, rfl, S1, hR, ⟨⟨_, wr', sy' + 1, a1, by omega, hdk, .inr rfl⟩, ⟨d2, t2, u2, c1, by omega, by omega, c4⟩, fun i hi => ?_, hm.out h.Sg hgl, h.gB, h.below_ hm.only⟩, hm, hO.jat, hnj⟩
    · rcases hm.new i hi with h' | h'
      · exact h.SB i h'
      · exact Nat.le_trans h.bl.size h'

/-- Size -/
theorem jd_size {w0 : World} {jb gd g : Nat} {S : Nat → Prop} {b : List Nat} {s wr sy t u : Nat} (w : World) (h : DT w0 w gd g S b s wr sy t u) (hj : JAt w jb gd g nmJ) :
    Calls Try.prog 17 #[.pointer (some ⟨jb, 0, none⟩)] w fun e w' => e = .returned (.int .i64 b.length) ∧ Below w.heap.size w w' := by
  obtain ⟨LL, wr', sy', a1, a2, a3, a4⟩ := h.dk
  rcases a4 with ⟨rfl, rfl, rfl⟩ | rfl
  · exact jsize_any (n := 0) (z := 14) w hj fun w1 hb => (read_none w1 (a3.below hb) nmJ_size rfl).mono fun e w' ⟨he, hb⟩ => ⟨none, 0, he, hb⟩
  · refine jsize_any (n := b.length) (z := 0) w hj fun w1 hb => (read_some w1 (a3.below hb) nmJ_size (findP_one _ _)).mono ?_
    rintro e w2 ⟨v, rfl, hown, hb2⟩
    obtain ⟨A, c, rfl⟩ := ownB_slice hown
    exact ⟨A, c, rfl, hb2⟩
end Go.Proofs.Ytgcfofnlgdfmoaa
