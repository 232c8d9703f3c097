/- Layer 7: Open where there is a file: its records, and the file cut behind them and synced. -/
import Derived.Test.YtgcfofnlgdfmoaaJlObj
import Derived.Test.YtgcfofnlgdfmoaaJlRows
import Derived.Test.YtgcfofnlgdfmoaaDkMore
import Derived.Test.YtgcfofnlgdfmoaaDkSync
import Derived.Test.YtgcfofnlgdfmoaaDkPut
import Derived.Test.YtgcfofnlgdfmoaaJournalLong
namespace Go.Proofs.Ytgcfofnlgdfmoaa
open Go.RowKit Go.Maps

theorem Disk.fileOk {S : Nat → Prop} {g : Nat} {L : List (ByteArray × Fl)} {wr sy : Nat} {w : World} {s : ByteArray} {f : Fl} (h : Disk w S g L wr sy) (hf : findP L s = some f) : OkB f.by_ ∧ f.by_.length ≤ 1048576 ∧ f.syn ≤ f.by_.length := by
  obtain ⟨E, mo, rfl, _, h2⟩ := h
  obtain ⟨x, hx, rfl⟩ := fl_some rfl hf
  have q := h2.each _ (findP_some hx)
  exact ⟨q.ok, q.max, q.syn⟩
theorem Disk.ltA {w : World} {S : Nat → Prop} {g wr sy : Nat} {L : List (ByteArray × Fl)} (h : Disk w S g L wr sy) : ∀ i, S i → i < w.heap.size := by
  obtain ⟨E, mo, _, h1, _⟩ := h
  exact h1.lt
theorem Rs.low {w : World} {base base' g : Nat} {v : Value} {L : List (List Nat)} (h : Rs w base g v L) (hb : base' ≤ base) : Rs w base' g v L := by
  obtain ⟨X, h⟩ := h
  exact ⟨X, ownB_mono h.own hb, h.len, fun i x l hx hl => by
    have q := h.each i x l hx hl
    exact ⟨q.n, q.nil, q.rd, q.ok, fun a ha h0 => ⟨Nat.le_trans hb (q.far a ha h0).1, (q.far a ha h0).2⟩⟩, h.vg⟩
/-- a row of records whose memory no block of S is part of -/
def RsS (S : Nat → Prop) (w : World) (g : Nat) (v : Value) (L : List (List Nat)) : Prop :=
  ∃ X, RsX w 0 g v X L ∧ (∀ (i : Nat) (x : Option Addr × Nat × Nat) (l : List Nat) (a : Addr), X[i]? = some x → L[i]? = some l → x.1 = some a → 0 < l.length → ¬ S a.block) ∧ (∀ i, v.ownBlock = some i → ¬ S i)
section
variable {w w' : World} {S S' T : Nat → Prop} {base g : Nat} {v : Value} {L : List (List Nat)}
theorem RsS.of (h : Rs w base g v L) (hS : ∀ i, S i → i < base) : RsS S w g v L := by
  obtain ⟨X, h⟩ := h
  refine ⟨X, ⟨ownB_mono h.own (Nat.zero_le _), h.len, fun i x l hx hl => ?_, h.vg⟩, fun i x l a hx hl ha h0 hs => ?_, fun i hi hs => ?_⟩
  · have q := h.each i x l hx hl
    exact ⟨q.n, q.nil, q.rd, q.ok, fun a ha h0 => ⟨Nat.zero_le _, (q.far a ha h0).2⟩⟩
  · have := ((h.each i x l hx hl).far a ha h0).1
    have := hS _ hs
    omega
  · have := (h.own.lt i hi).1
    have := hS _ hs
    omega
theorem RsS.any (h : RsS S w g v L) (ho : Only T w w') (hT : ∀ i, T i → S i ∨ i = g) (hn : ∀ k, S' k → S k ∨ w.heap.size ≤ k) : RsS S' w' g v L := by
  obtain ⟨X, h, h1, h2⟩ := h
  have lt : ∀ {A : Option Addr} {l : List Nat} {a : Addr}, RdB w w.heap.size A l → A = some a → 0 < l.length → a.block < w.heap.size := fun hr ha h0 => by
    obtain ⟨b, o, e, hb, _⟩ := hr h0
    rw [ha] at e
    injection e with e
    rw [e]; exact hb
  refine ⟨X, ⟨ho.own h.own (fun k hk ht => ?_), h.len, fun i x l hx hl => ?_, h.vg⟩, fun i x l a hx hl ha h0 hs => ?_, fun i hi hs => ?_⟩
  · rcases hT k ht with h' | h'
    · exact h2 k hk h'
    · exact h.vg (by rw [hk, h'])
  · have q := h.each i x l hx hl
    refine ⟨q.n, q.nil, (ho.rdB q.rd (Nat.le_refl _) (fun a ha h0 ht => ?_)).more ho.size, q.ok, q.far⟩
    rcases hT _ ht with h' | h'
    · exact h1 i x l a hx hl ha h0 h'
    · exact (q.far a ha h0).2.1 h'
  · rcases hn _ hs with h' | h'
    · exact h1 i x l a hx hl ha h0 h'
    · have := lt (h.each i x l hx hl).rd ha h0
      omega
  · rcases hn _ hs with h' | h'
    · exact h2 i hi h'
    · have := (h.own.lt i hi).2
      omega
theorem RsS.step (h : RsS S w g v L) (hs : Step w S w' S') : RsS S' w' g v L := h.any hs.only (fun _ hi => .inl hi) hs.new
theorem RsS.below (h : RsS S w g v L) (hb : Below w.heap.size w w') : RsS S w' g v L := h.any (T := fun _ => False) (Only.of_below hb _) (fun _ hi => hi.elim) (fun _ hk => .inl hk)
theorem RsS.nil (w : World) (S : Nat → Prop) (g : Nat) : RsS S w g (.slice none 0 0) [] := ⟨[], ⟨World.ownsRow_nil _ _ _ _, rfl, fun i x l hx => by simp at hx, by simp [Value.ownBlock]⟩, fun i x l a hx => by simp at hx, fun i hi => by simp [Value.ownBlock] at hi⟩
theorem RsS.rs (h : RsS S w g v L) : Rs w 0 g v L := by
  obtain ⟨X, h, _⟩ := h
  exact ⟨X, h⟩
theorem RsS.sub (h : RsS S w g v L) (hS : ∀ k, S' k → S k) : RsS S' w g v L := by
  obtain ⟨X, h, h1, h2⟩ := h
  exact ⟨X, h, fun i x l a hx hl ha h0 hs => h1 i x l a hx hl ha h0 (hS _ hs), fun i hi hs => h2 i hi (hS _ hs)⟩
end
/-- what Open leaves of a disk and a table -/
structure Opened (w w' : World) (S S' : Nat → Prop) (gd g : Nat) (s : ByteArray) (L : List (ByteArray × Fl)) (wr sy : Nat) (d t b n : Nat) : Prop where
  dk : Disk w' S' gd L wr sy
  new : ∀ k, S' k → S k ∨ w.heap.size ≤ k
  only : Only (fun k => S k ∨ k = g) w w'
  jat : JAt w' w.heap.size gd g s
  tab : ∃ d' t' b', d' ≤ 1 ∧ t' ≤ t + n + 1 ∧ b' ≤ b + 2 * n ∧ Tab w' g d' t' b'

set_option maxRecDepth 100000 in
set_option maxHeartbeats 1000000 in
theorem jopen_rows {S : Nat → Prop} {gd g d t b : Nat} {L : List (ByteArray × Fl)} {wr0 sy : Nat} (s : ByteArray) (f : Fl) (w : World) (h : Disk w S gd L wr0 sy) (hT : Tab w g d t b) (hd : d ≤ 1) (hSg : ¬ S g) (ht : t < 100000000) (hb : b < 100000000000) (hs : s.size ≤ maxLen) (hf : findP L s = some f) (hsy : sy ≤ 1000000) :
    Calls Try.prog 11 #[.pointer (some ⟨gd, 0, none⟩), .pointer (some ⟨g, 0, none⟩), .string s] w fun e w' => ∃ v S', e = .returned (.tuple #[.pointer (some ⟨w.heap.size, 0, none⟩), v, .int .i64 0]) ∧ Rs w' w.heap.size g v (scanJ f.by_).1 ∧ RsS S' w' g v (scanJ f.by_).1 ∧ ¬ S' w.heap.size ∧
      Opened w w' S S' gd g s (putP L s ⟨f.by_.take (scanJ f.by_).2, (scanJ f.by_).2⟩) wr0 (sy + 1) d t b f.by_.length := by
  obtain ⟨ok, max, syn⟩ := h.fileOk hf
  have hb1 : Below w.heap.size w (w.alloc (.cells #[.pointer (some ⟨gd, 0, none⟩), .pointer (some ⟨g, 0, none⟩), .string s] 114)) := (Below.refl _ _).alloc (Nat.le_refl _) _
  have hR := read_some _ (h.below hb1) hs hf
  have hj : JAt (w.alloc (.cells #[.pointer (some ⟨gd, 0, none⟩), .pointer (some ⟨g, 0, none⟩), .string s] 114)) w.heap.size gd g s :=
    ⟨by simp, by rw [World.cell?_alloc_at _ _ _ _ rfl]; rfl, by rw [World.cell?_alloc_at _ _ _ _ rfl]; rfl, by rw [World.cell?_alloc_at _ _ _ _ rfl]; rfl⟩
  obtain ⟨M, z, hz⟩ : ∃ M z, scanJ f.by_ = (M, z) := ⟨_, _, rfl⟩
  have hzn : z ≤ f.by_.length := by have := scanJ_le _ f.by_ (Nat.le_refl _); rw [hz] at this; exact this
  obtain ⟨l, hl⟩ : ∃ l, l = f.by_ := ⟨_, rfl⟩
  rw [← hl] at hz hzn max ok hR
  rw [← hl, hz]
  obtain ⟨n, hn⟩ : ∃ n, n = l.length := ⟨_, rfl⟩
  rw [← hn] at hzn max hR
  rw [← hn]
  obtain ⟨w1, hw1⟩ : ∃ w1, w1 = w.alloc (.cells #[.pointer (some ⟨gd, 0, none⟩), .pointer (some ⟨g, 0, none⟩), .string s] 114) := ⟨_, rfl⟩
  have HW1 := Lib.hid hw1
  rw [← hw1] at hR hj hb1
  have HR := Lib.hid hR
  have HJ := Lib.hid hj
  have HB := Lib.hid hb1
  have HD := Lib.hid h
  have HT := Lib.hid hT
  have Hz := Lib.hid hz
  have Hn := Lib.hid hn
  have Hl := Lib.hid hl
  have Hok := Lib.hid ok
  have hgd : gd < w.heap.size := h.ltA gd (by obtain ⟨E, mo, _, h1, _⟩ := h; exact h1.gS)
  have hwg : g < w.heap.size := hT.lt
  have hSl := h.ltA
  clear h hR hj hb1 hw1 hT hz hn hl ok syn
  go_enter Try.func11, Try.ntmps11
  go_wp2_with fail
  rw [← HW1.out]
  refine HR.out.mono ?_
  rintro e w2 ⟨v, rfl, hown, hb2⟩
  obtain ⟨A, c, rfl⟩ := ownB_slice hown
  obtain ⟨y1, -, -⟩ := rdB_of_own hown
  have hc := own_cap7 hown
  have Hb2 : Hid (Below w.heap.size w w2) := HB.out.trans (hb2.mono HB.out.size)
  have HJ2 := Lib.hid (HJ.out.below hb2)
  have Hrd := Lib.hid y1
  have Hoff : Hid (Off A g l) := fun _ a ha e => by
    have := (hown.lt a.block (by rw [ha]; rfl)).1
    have := HB.out.size
    omega
  have HT2 := Lib.hid (HT.out.below Hb2.out)
  clear hown hb2 y1
  go_wp2_with fail
  refine (jscan_any g d t b hd A n c l w2.heap.size w2 HT2.out Hn.out hc (by omega) (by omega) (by omega) Hrd.out (Nat.le_refl _) Hok.out Hoff.out).mono ?_
  rw [Hz.out]
  rintro e w3 ⟨v3, rfl, hs3, ⟨d3, t3, b3, hd3, ht3, hb3, hT3⟩, hti⟩
  have Ho3 : Hid (Only (fun k => k = g) w2 w3) := hti.only
  obtain ⟨A3, c3, rfl⟩ : ∃ A c, v3 = .slice A M.length c := hs3.slice
  have HD3 : Hid (Disk w3 S gd L wr0 sy) := (HD.out.below Hb2.out).keep Ho3.out (fun k hk e => hSg (by have e : k = g := e; rw [e] at hk; exact hk))
  have HJ3 : Hid (JAt w3 w.heap.size gd g s) := HJ2.out.only Ho3.out (fun e => by have e : w.heap.size = g := e; omega)
  have Hs3 : Hid (Rs w3 w2.heap.size g (.slice A3 M.length c3) M) := hs3
  have HT3 := Lib.hid hT3
  clear hs3 hT3 hti
  go_wp2_with fail
  refine (cut_some z w3 HD3.out hs hf (by rw [← Hl.out, ← Hn.out]; exact hzn)).mono ?_
  rintro e w4 ⟨rfl, S4, hD4, hst4⟩
  have HD4 := Lib.hid hD4
  have Hst4 := Lib.hid hst4
  clear hD4 hst4
  go_wp2_with fail
  refine (sync_some w4 HD4.out hs (findP_set _ _ _) hsy).mono ?_
  rintro e w5 ⟨rfl, S5, hD5, hst5⟩
  rw [putP_twice] at hD5
  have HD5 : Hid (Disk w5 S5 gd (putP L s ⟨l.take z, z⟩) wr0 (sy + 1)) := by
    have e1 : (cutF f z).by_ = l.take z := by rw [Hl.out]; rfl
    have e2 : (l.take z).length = z := by rw [List.length_take, ← Hn.out]; omega
    rw [e1, e2] at hD5
    exact hD5
  have Hst : Hid (Step w3 S w5 S5) := Hst4.out.trans hst5
  clear hD5 hst5
  go_wp2
  go_ret3
  have hw2 := Hb2.out.size
  have hw3 := Ho3.out.size
  have hw23 : w.heap.size < w2.heap.size := HJ2.out.lt
  refine ⟨_, S5, rfl, ((Hs3.out.only Hst.out.only (fun i hi => .inl (by have := hSl i hi; omega)) (by omega)).low hw2), (RsS.of Hs3.out (fun i hi => by have := hSl i hi; omega)).step Hst.out, (fun hk => by
    rcases Hst.out.new _ hk with h' | h'
    · have := hSl _ h'; omega
    · have := Hb2.out.size; have := hw23; omega), ?_⟩
  refine ⟨HD5.out, fun k hk => (Hst.out.new k hk).imp id (fun h => by omega), ?_, HJ3.out.only Hst.out.only (fun h => by have := hSl _ h; omega), ⟨d3, t3, b3, hd3, ht3, hb3, HT3.out.only Hst.out.only hSg⟩⟩
  exact ((Only.of_below Hb2.out (fun k => S k ∨ k = g)).trans Ho3.out (fun i h => .inl (.inr h))).trans Hst.out.only (fun i h => .inl (.inl h))
theorem jopen_some {S : Nat → Prop} {gd g d t b : Nat} {L : List (ByteArray × Fl)} {wr0 sy : Nat} (s : ByteArray) (f : Fl) (w : World) (h : Disk w S gd L wr0 sy) (hT : Tab w g d t b) (hd : d ≤ 1) (hSg : ¬ S g) (ht : t < 100000000) (hb : b < 100000000000) (hs : s.size ≤ maxLen) (hf : findP L s = some f) (hsy : sy ≤ 1000000) :
    Calls Try.prog 11 #[.pointer (some ⟨gd, 0, none⟩), .pointer (some ⟨g, 0, none⟩), .string s] w fun e w' => ∃ v S', e = .returned (.tuple #[.pointer (some ⟨w.heap.size, 0, none⟩), v, .int .i64 0]) ∧ Rs w' w.heap.size g v (scanJ f.by_).1 ∧
      Opened w w' S S' gd g s (putP L s ⟨f.by_.take (scanJ f.by_).2, (scanJ f.by_).2⟩) wr0 (sy + 1) d t b f.by_.length := by
  refine (jopen_rows s f w h hT hd hSg ht hb hs hf hsy).mono ?_
  rintro e w' ⟨v, S', h1, h2, _, _, h3⟩
  exact ⟨v, S', h1, h2, h3⟩
end Go.Proofs.Ytgcfofnlgdfmoaa
