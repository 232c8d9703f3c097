/- Layer 7: Open where there is a file: its records, and the file cut behind them and synced. -/
import Derived.Test.YtheojokfgndheaaJlObj
import Derived.Test.YtheojokfgndheaaJlRows
import Derived.Test.YtheojokfgndheaaDkMore
import Derived.Test.YtheojokfgndheaaDkSync
import Derived.Test.YtheojokfgndheaaDkPut
import Derived.Test.YtheojokfgndheaaJournalLong
namespace Go.Proofs.Ytheojokfgndheaa
open Go.RowKit Go.Maps

theorem Disk.fileOk {S : Nat → Prop} {g : Nat} {L : List (ByteArray × Fl)} {wr sy : Nat} {w : World} {s : ByteArray} {f : Fl} (h : Disk w S g L wr sy) (hf : findP L s = some f) : OkB f.by_ ∧ f.by_.length ≤ 1048576 ∧ f.syn ≤ f.by_.length := by
  obtain ⟨E, mo, rfl, _, h2⟩ := h
  obtain ⟨x, hx, rfl⟩ := fl_some rfl hf
  have q := h2.each _ (findP_some hx)
  exact ⟨q.ok, q.max, q.syn⟩
theorem Disk.ltA {w : World} {S : Nat → Prop} {g wr sy : Nat} {L : List (ByteArray × Fl)} (h : Disk w S g L wr sy) : ∀ i, S i → i < w.heap.size := by
  obtain ⟨E, mo, _, h1, _⟩ := h
  exact h1.lt
theorem Rs.low {w : World} {base base' g : Nat} {v : Value} {L : List (List Nat)} (h : Rs w base g v L) (hb : base' ≤ base) : Rs w base' g v L := by
  obtain ⟨X, h⟩ := h
  exact ⟨X, ownB_mono h.own hb, h.len, fun i x l hx hl => by
    have q := h.each i x l hx hl
    exact ⟨q.n, q.nil, q.rd, q.ok, fun a ha h0 => ⟨Nat.le_trans hb (q.far a ha h0).1, (q.far a ha h0).2⟩⟩, h.vg⟩
/-- what Open leaves of a disk and a table -/
structure Opened (w w' : World) (S S' : Nat → Prop) (gd g : Nat) (s : ByteArray) (L : List (ByteArray × Fl)) (wr sy : Nat) (d t b n : Nat) : Prop where
  dk : Disk w' S' gd L wr sy
  new : ∀ k, S' k → S k ∨ w.heap.size ≤ k
  only : Only (fun k => S k ∨ k = g) w w'
  jat : JAt w' w.heap.size gd g s
  tab : ∃ d' t' b', d' ≤ 1 ∧ t' ≤ t + n + 1 ∧ b' ≤ b + 2 * n ∧ Tab w' g d' t' b'

set_option maxRecDepth 100000 in
set_option maxHeartbeats 1000000 in
theorem jopen_some {S : Nat → Prop} {gd g d t b : Nat} {L : List (ByteArray × Fl)} {wr0 sy : Nat} (s : ByteArray) (f : Fl) (w : World) (h : Disk w S gd L wr0 sy) (hT : Tab w g d t b) (hd : d ≤ 1) (hSg : ¬ S g) (ht : t < 100000000) (hb : b < 100000000000) (hs : s.size ≤ maxLen) (hf : findP L s = some f) (hsy : sy ≤ 1000000) :
    Calls Try.prog 35 #[.pointer (some ⟨gd, 0, none⟩), .pointer (some ⟨g, 0, none⟩), .string s] w fun e w' => ∃ v S', e = .returned (.tuple #[.pointer (some ⟨w.heap.size, 0, none⟩), v, .int .i64 0]) ∧ Rs w' w.heap.size g v (scanJ f.by_).1 ∧
      Opened w w' S S' gd g s (putP L s ⟨f.by_.take (scanJ f.by_).2, (scanJ f.by_).2⟩) wr0 (sy + 1) d t b f.by_.length := by
  obtain ⟨ok, max, syn⟩ := h.fileOk hf
  have hb1 : Below w.heap.size w (w.alloc (.cells #[.pointer (some ⟨gd, 0, none⟩), .pointer (some ⟨g, 0, none⟩), .string s] 124)) := (Below.refl _ _).alloc (Nat.le_refl _) _
  have hR := read_some _ (h.below hb1) hs hf
  have hj : JAt (w.alloc (.cells #[.pointer (some ⟨gd, 0, none⟩), .pointer (some ⟨g, 0, none⟩), .string s] 124)) w.heap.size gd g s :=
    ⟨by simp, by rw [World.cell?_alloc_at _ _ _ _ rfl]; rfl, by rw [World.cell?_alloc_at _ _ _ _ rfl]; rfl, by rw [World.cell?_alloc_at _ _ _ _ rfl]; rfl⟩
  obtain ⟨M, z, hz⟩ : ∃ M z, scanJ f.by_ = (M, z) := ⟨_, _, rfl⟩
  have hzn : z ≤ f.by_.length := by have := scanJ_le _ f.by_ (Nat.le_refl _); rw [hz] at this; exact this
  obtain ⟨l, hl⟩ : ∃ l, l = f.by_ := ⟨_, rfl⟩
  rw [← hl] at hz hzn max ok hR
  rw [← hl, hz]
  obtain ⟨n, hn⟩ : ∃ n, n = l.length := ⟨_, rfl⟩
  rw [← hn] at hzn max hR
  rw [← hn]
  obtain ⟨w1, hw1⟩ : ∃ w1, w1 = w.alloc (.cells #[.pointer (some ⟨gd, 0, none⟩), .pointer (some ⟨g, 0, none⟩), .string s] 124) := ⟨_, rfl⟩
  have HW1 := Lib.hid hw1
  rw [← hw1] at hR hj hb1
  have HR := Lib.hid hR
  have HJ := Lib.hid hj
  have HB := Lib.hid hb1
  have HD := Lib.hid h
  have HT := Lib.hid hT
  have Hz := Lib.hid hz
  have Hn := Lib.hid hn
  have Hl := Lib.hid hl
  have Hok := Lib.hid ok
  have hgd : gd < w.heap.size := h.ltA gd (by obtain ⟨E, mo, _, h1, _⟩ := h; exact h1.gS)
  have hwg : g < w.heap.size := hT.lt
  have hSl := h.ltA
  clear h hR hj hb1 hw1 hT hz hn hl ok syn
  go_enter Try.func35, Try.ntmps35
  go_wp2_with fail
  rw [← HW1.out]
  refine HR.out.mono ?_
  rintro e w2 ⟨v, rfl, hown, hb2⟩
  obtain ⟨A, c, rfl⟩ := ownB_slice hown
  obtain ⟨y1, -, -⟩ := rdB_of_own hown
  have hc := own_cap7 hown
  have Hb2 : Hid (Below w.heap.size w w2) := HB.out.trans (hb2.mono HB.out.size)
  have HJ2 := Lib.hid (HJ.out.below hb2)
  have Hrd := Lib.hid y1
  have Hoff : Hid (Off A g l) := fun _ a ha e => by
    have := (hown.lt a.block (by rw [ha]; rfl)).1
    have := HB.out.size
    omega
  have HT2 := Lib.hid (HT.out.below Hb2.out)
  clear hown hb2 y1
  go_wp2_with fail
  refine (jscan_any g d t b hd A n c l w2.heap.size w2 HT2.out Hn.out hc (by omega) (by omega) (by omega) Hrd.out (Nat.le_refl _) Hok.out Hoff.out).mono ?_
  rw [Hz.out]
  rintro e w3 ⟨v3, rfl, hs3, ⟨d3, t3, b3, hd3, ht3, hb3, hT3⟩, hti⟩
  have Ho3 : Hid (Only (fun k => k = g) w2 w3) := hti.only
  obtain ⟨A3, c3, rfl⟩ : ∃ A c, v3 = .slice A M.length c := hs3.slice
  have HD3 : Hid (Disk w3 S gd L wr0 sy) := (HD.out.below Hb2.out).keep Ho3.out (fun k hk e => hSg (by have e : k = g := e; rw [e] at hk; exact hk))
  have HJ3 : Hid (JAt w3 w.heap.size gd g s) := HJ2.out.only Ho3.out (fun e => by have e : w.heap.size = g := e; omega)
  have Hs3 : Hid (Rs w3 w2.heap.size g (.slice A3 M.length c3) M) := hs3
  have HT3 := Lib.hid hT3
  clear hs3 hT3 hti
  go_wp2_with fail
  refine (cut_some z w3 HD3.out hs hf (by rw [← Hl.out, ← Hn.out]; exact hzn)).mono ?_
  rintro e w4 ⟨rfl, S4, hD4, hst4⟩
  have HD4 := Lib.hid hD4
  have Hst4 := Lib.hid hst4
  clear hD4 hst4
  go_wp2_with fail
  refine (sync_some w4 HD4.out hs (findP_set _ _ _) hsy).mono ?_
  rintro e w5 ⟨rfl, S5, hD5, hst5⟩
  rw [putP_twice] at hD5
  have HD5 : Hid (Disk w5 S5 gd (putP L s ⟨l.take z, z⟩) wr0 (sy + 1)) := by
    have e1 : (cutF f z).by_ = l.take z := by rw [Hl.out]; rfl
    have e2 : (l.take z).length = z := by rw [List.length_take, ← Hn.out]; omega
    rw [e1, e2] at hD5
    exact hD5
  have Hst : Hid (Step w3 S w5 S5) := Hst4.out.trans hst5
  clear hD5 hst5
  go_wp2
  go_ret3
  have hw2 := Hb2.out.size
  have hw3 := Ho3.out.size
  refine ⟨_, S5, rfl, ((Hs3.out.only Hst.out.only (fun i hi => .inl (by have := hSl i hi; omega)) (by omega)).low hw2), ?_⟩
  refine ⟨HD5.out, fun k hk => (Hst.out.new k hk).imp id (fun h => by omega), ?_, HJ3.out.only Hst.out.only (fun h => by have := hSl _ h; omega), ⟨d3, t3, b3, hd3, ht3, hb3, HT3.out.only Hst.out.only hSg⟩⟩
  exact ((Only.of_below Hb2.out (fun k => S k ∨ k = g)).trans Ho3.out (fun i h => .inl (.inr h))).trans Hst.out.only (fun i h => .inl (.inl h))
end Go.Proofs.Ytheojokfgndheaa
