/- Several texts in one: DkPut, JlAwake, JournalLong, JlOpen, StMem, StAl. -/
import Derived.Lib.SlBytesConst
import Derived.Shelf.Abstract
import Derived.Test.YtholdcgkhicdmaaGreatDoorZq26
namespace Go.Proofs.YtholdcgkhicdmaaGreatDoor
open Go.RowKit
theorem delP_no {α : Type} {l : List (ByteArray × α)} {s : ByteArray} (h : ∀ p ∈ l, p.1 ≠ s) : delP l s = l := List.filter_eq_self.2 fun p hp => by rw [eqS_no (h p hp)]; rfl
theorem delP_ins {α : Type} {x : ByteArray × α} : ∀ {l : List (ByteArray × α)}, (∀ p ∈ l, p.1 ≠ x.1) → delP (insP x l) x.1 = l
 | [], _ => by simp [insP, delP, eqS_refl]
 | y :: r, h => by
   unfold insP
   by_cases hl : ltS x.1 y.1 = true
   ·rw [if_pos hl]
    show List.filter _ _ = _
    rw [List.filter_cons_of_neg (by simp [eqS_refl])]
    exact delP_no h
   ·rw [if_neg hl]
    show List.filter _ _ = _
    rw [List.filter_cons_of_pos (by rw [eqS_no (h y (by simp))]; rfl)]
    exact congrArg (y :: ·) (delP_ins (l := r) fun p hp => h p (by simp [hp]))
theorem findP_ins {α : Type} {x : ByteArray × α} : ∀ {l : List (ByteArray × α)}, (∀ p ∈ l, p.1 ≠ x.1) → findP (insP x l) x.1 = some x.2
 | [], _ => by simp [insP, findP, eqS_refl]
 | y :: r, h => by
   unfold insP
   by_cases hl : ltS x.1 y.1 = true
   ·rw [if_pos hl]
    unfold findP
    rw [List.find?_cons_of_pos (by simp [eqS_refl])]
    rfl
   ·rw [if_neg hl]
    have ih := findP_ins (l := r) fun p hp => h p (by simp [hp])
    unfold findP at ih ⊢
    rw [List.find?_cons_of_neg (by rw [eqS_no (h y (by simp))]; decide)]
    exact ih
theorem findP_set {α : Type} (l : List (ByteArray × α)) (s : ByteArray) (f : α) : findP (putP l s f) s = some f := findP_ins (x := (s, f)) fun _ hp => (mem_delP.1 hp).2
theorem putP_twice {α : Type} (l : List (ByteArray × α)) (s : ByteArray) (a b : α) : putP (putP l s a) s b = putP l s b := by
 have h := delP_ins (x := (s, a)) (l := delP l s) fun _ hp => (mem_delP.1 hp).2
 show insP _ (delP (insP (s, a) (delP l s)) s) = insP _ (delP l s)
 rw [h]
theorem findP_one {α : Type} (s : ByteArray) (f : α) : findP [(s, f)] s = some f := by simp [findP, eqS_refl]
end Go.Proofs.YtholdcgkhicdmaaGreatDoor
namespace Go.Proofs.YtholdcgkhicdmaaGreatDoor
open Go.RowKit Go.Maps
end Go.Proofs.YtholdcgkhicdmaaGreatDoor
namespace Go.Proofs.YtholdcgkhicdmaaGreatDoor
open Go.RowKit Go.Maps
theorem own_cap7 {w : World} {base : Nat} {e : TypeId} {size n c : Nat} {A : Option Addr} {xs : List Value} (h : w.ownsRow base e size (.slice A n c) n xs) : n ≤ c := by
 rcases h.2 with ⟨e1, rfl⟩ | ⟨g, cap, cur, e1, _, _, hnc, _⟩
 ·exact Nat.zero_le _
 ·injection e1 with _ _ e3
  omega
namespace journalLong
end journalLong
end Go.Proofs.YtholdcgkhicdmaaGreatDoor
namespace Go.Proofs.YtholdcgkhicdmaaGreatDoor
open Go.RowKit Go.Maps
theorem Disk.fileOk {S : Nat → Prop} {g : Nat} {L : List (ByteArray × Fl)} {wr sy : Nat} {w : World} {s : ByteArray} {f : Fl} (h : Disk w S g L wr sy) (hf : findP L s = some f) : OkB f.by_ ∧ f.by_.length ≤ 1048576 ∧ f.syn ≤ f.by_.length := by
 obtain ⟨E, mo, rfl, _, h2⟩ := h
 obtain ⟨x, hx, rfl⟩ := fl_some rfl hf
 have q := h2.each _ (findP_some hx)
 exact ⟨q.ok, q.max, q.syn⟩
theorem Disk.ltA {w : World} {S : Nat → Prop} {g wr sy : Nat} {L : List (ByteArray × Fl)} (h : Disk w S g L wr sy) : ∀ i, S i → i < w.heap.size := by
 obtain ⟨E, mo, _, h1, _⟩ := h
 exact h1.lt
theorem Rs.low {w : World} {base base' g : Nat} {v : Value} {L : List (List Nat)} (h : Rs w base g v L) (hb : base' ≤ base) : Rs w base' g v L := by
 obtain ⟨X, h⟩ := h
 exact ⟨X, ownB_mono h.own hb, h.len, fun i x l hx hl => by
  have q := h.each i x l hx hl
  exact ⟨q.n, q.cap, q.nil, q.rd, q.ok, fun a ha h0 => ⟨Nat.le_trans hb (q.far a ha h0).1, (q.far a ha h0).2⟩⟩, h.vg⟩
def RsS (S : Nat → Prop) (w : World) (g : Nat) (v : Value) (L : List (List Nat)) : Prop :=
 ∃ X, RsX w 0 g v X L ∧ (∀ (i : Nat) (x : Option Addr × Nat × Nat) (l : List Nat) (a : Addr), X[i]? = some x → L[i]? = some l → x.1 = some a → 0 < l.length → ¬ S a.block) ∧ (∀ i, v.ownBlock = some i → ¬ S i)
section
variable {w w' : World} {S S' T : Nat → Prop} {base g : Nat} {v : Value} {L : List (List Nat)}
theorem RsS.of (h : Rs w base g v L) (hS : ∀ i, S i → i < base) : RsS S w g v L := by
 obtain ⟨X, h⟩ := h
 refine ⟨X, ⟨ownB_mono h.own (Nat.zero_le _), h.len, fun i x l hx hl => ?_, h.vg⟩, fun i x l a hx hl ha h0 hs => ?_, fun i hi hs => ?_⟩
 ·have q := h.each i x l hx hl
  exact ⟨q.n, q.cap, q.nil, q.rd, q.ok, fun a ha h0 => ⟨Nat.zero_le _, (q.far a ha h0).2⟩⟩
 ·have := ((h.each i x l hx hl).far a ha h0).1
  have := hS _ hs
  omega
 ·have := (h.own.lt i hi).1
  have := hS _ hs
  omega
theorem RsS.any (h : RsS S w g v L) (ho : Only T w w') (hT : ∀ i, T i → S i ∨ i = g) (hn : ∀ k, S' k → S k ∨ w.heap.size ≤ k) : RsS S' w' g v L := by
 obtain ⟨X, h, h1, h2⟩ := h
 have lt : ∀ {A : Option Addr} {l : List Nat} {a : Addr}, RdB w w.heap.size A l → A = some a → 0 < l.length → a.block < w.heap.size := fun hr ha h0 => by
  obtain ⟨b, o, e, hb, _⟩ := hr h0
  rw [ha] at e
  injection e with e
  rw [e]; exact hb
 refine ⟨X, ⟨ho.own h.own (fun k hk ht => ?_), h.len, fun i x l hx hl => ?_, h.vg⟩, fun i x l a hx hl ha h0 hs => ?_, fun i hi hs => ?_⟩
 ·rcases hT k ht with h' | h'
  ·exact h2 k hk h'
  ·exact h.vg (by rw [hk, h'])
 ·have q := h.each i x l hx hl
  refine ⟨q.n, q.cap, q.nil, (ho.rdB q.rd (Nat.le_refl _) (fun a ha h0 ht => ?_)).more ho.size, q.ok, q.far⟩
  rcases hT _ ht with h' | h'
  ·exact h1 i x l a hx hl ha h0 h'
  ·exact (q.far a ha h0).2.1 h'
 ·rcases hn _ hs with h' | h'
  ·exact h1 i x l a hx hl ha h0 h'
  ·have := lt (h.each i x l hx hl).rd ha h0
   omega
 ·rcases hn _ hs with h' | h'
  ·exact h2 i hi h'
  ·have := (h.own.lt i hi).2
   omega
theorem RsS.step (h : RsS S w g v L) (hs : Step w S w' S') : RsS S' w' g v L := h.any hs.only (fun _ hi => .inl hi) hs.new
end
structure Opened (w w' : World) (S S' : Nat → Prop) (gd g : Nat) (s : ByteArray) (L : List (ByteArray × Fl)) (wr sy : Nat) (d t b n : Nat) : Prop where
 dk : Disk w' S' gd L wr sy
 new : ∀ k, S' k → S k ∨ w.heap.size ≤ k
 only : Only (fun k => S k ∨ k = g) w w'
 jat : JAt w' w.heap.size gd g s
 tab : ∃ d' t' b', d' ≤ 1 ∧ t' ≤ t + n + 1 ∧ b' ≤ b + 2 * n ∧ Tab w' g d' t' b'
set_option maxRecDepth 100000 in
set_option maxHeartbeats 1000000 in
theorem jopen_rows {S : Nat → Prop} {gd g d t b : Nat} {L : List (ByteArray × Fl)} {wr0 sy : Nat} (s : ByteArray) (f : Fl) (w : World) (h : Disk w S gd L wr0 sy) (hT : Tab w g d t b) (hd : d ≤ 1) (hSg : ¬ S g) (ht : t < 100000000) (hb : b < 100000000000) (hs : s.size ≤ maxLen) (hf : findP L s = some f) (hsy : sy ≤ 1000000) :
  Calls Tryz.prog 59 #[.pointer (some ⟨gd, 0, none⟩), .pointer (some ⟨g, 0, none⟩), .string s] w fun e w' => ∃ v S', e = .returned (.tuple #[.pointer (some ⟨w.heap.size, 0, none⟩), v, .int .i64 0]) ∧ Rs w' (w.heap.size + 1) g v (scanJ f.by_).1 ∧ RsS S' w' g v (scanJ f.by_).1 ∧ ¬ S' w.heap.size ∧
   Opened w w' S S' gd g s (putP L s ⟨f.by_.take (scanJ f.by_).2, (scanJ f.by_).2⟩) wr0 (sy + 1) d t b f.by_.length := by
 obtain ⟨ok, max, syn⟩ := h.fileOk hf
 have hb1 : Below w.heap.size w (w.alloc (.cells #[.pointer (some ⟨gd, 0, none⟩), .pointer (some ⟨g, 0, none⟩), .string s] 162)) := (Below.refl _ _).alloc (Nat.le_refl _) _
 have hR := read_some _ (h.below hb1) hs hf
 have hj : JAt (w.alloc (.cells #[.pointer (some ⟨gd, 0, none⟩), .pointer (some ⟨g, 0, none⟩), .string s] 162)) w.heap.size gd g s :=
  ⟨by simp, by rw [World.cell?_alloc_at _ _ _ _ rfl]; rfl, by rw [World.cell?_alloc_at _ _ _ _ rfl]; rfl, by rw [World.cell?_alloc_at _ _ _ _ rfl]; rfl⟩
 obtain ⟨M, z, hz⟩ : ∃ M z, scanJ f.by_ = (M, z) := ⟨_, _, rfl⟩
 have hzn : z ≤ f.by_.length := by have := scanJ_le _ f.by_ (Nat.le_refl _); rw [hz] at this; exact this
 obtain ⟨l, hl⟩ : ∃ l, l = f.by_ := ⟨_, rfl⟩
 rw [← hl] at hz hzn max ok hR
 rw [← hl, hz]
 obtain ⟨n, hn⟩ : ∃ n, n = l.length := ⟨_, rfl⟩
 rw [← hn] at hzn max hR
 rw [← hn]
 obtain ⟨w1, hw1⟩ : ∃ w1, w1 = w.alloc (.cells #[.pointer (some ⟨gd, 0, none⟩), .pointer (some ⟨g, 0, none⟩), .string s] 162) := ⟨_, rfl⟩
 have HW1 := Lib.hid hw1
 rw [← hw1] at hR hj hb1
 have HR := Lib.hid hR
 have HJ := Lib.hid hj
 have HB := Lib.hid hb1
 have HD := Lib.hid h
 have HT := Lib.hid hT
 have Hz := Lib.hid hz
 have Hn := Lib.hid hn
 have Hl := Lib.hid hl
 have Hok := Lib.hid ok
 have hgd : gd < w.heap.size := h.ltA gd (by obtain ⟨E, mo, _, h1, _⟩ := h; exact h1.gS)
 have hwg : g < w.heap.size := hT.lt
 have hSl := h.ltA
 clear h hR hj hb1 hw1 hT hz hn hl ok syn
 go_enter Tryz.func59, Tryz.ntmps59
 go_wp2_with fail
 rw [← HW1.out]
 refine HR.out.mono ?_
 rintro e w2 ⟨v, rfl, hown, hb2⟩
 obtain ⟨A, c, rfl⟩ := ownB_slice hown
 obtain ⟨y1, -, -⟩ := rdB_of_own hown
 have hc := own_cap7 hown
 have Hb2 : Hid (Below w.heap.size w w2) := HB.out.trans (hb2.mono HB.out.size)
 have HJ2 := Lib.hid (HJ.out.below hb2)
 have Hrd := Lib.hid y1
 have Hoff : Hid (Off A g l) := fun _ a ha e => by
  have := (hown.lt a.block (by rw [ha]; rfl)).1
  have := HB.out.size
  omega
 have HT2 := Lib.hid (HT.out.below Hb2.out)
 clear hown hb2 y1
 go_wp2_with fail
 refine (jscan_any g d t b hd A n c l w2.heap.size w2 HT2.out Hn.out hc (by omega) (by omega) (by omega) Hrd.out (Nat.le_refl _) Hok.out Hoff.out).mono ?_
 rw [Hz.out]
 rintro e w3 ⟨v3, rfl, hs3, ⟨d3, t3, b3, hd3, ht3, hb3, hT3⟩, hti⟩
 have Ho3 : Hid (Only (fun k => k = g) w2 w3) := hti.only
 obtain ⟨A3, c3, rfl⟩ : ∃ A c, v3 = .slice A M.length c := hs3.slice
 have HD3 : Hid (Disk w3 S gd L wr0 sy) := (HD.out.below Hb2.out).keep Ho3.out (fun k hk e => hSg (by have e : k = g := e; rw [e] at hk; exact hk))
 have HJ3 : Hid (JAt w3 w.heap.size gd g s) := HJ2.out.only Ho3.out (fun e => by have e : w.heap.size = g := e; omega)
 have Hs3 : Hid (Rs w3 w2.heap.size g (.slice A3 M.length c3) M) := hs3
 have HT3 := Lib.hid hT3
 clear hs3 hT3 hti
 go_wp2_with fail
 refine (cut_some z w3 HD3.out hs hf (by rw [← Hl.out, ← Hn.out]; exact hzn)).mono ?_
 rintro e w4 ⟨rfl, S4, hD4, hst4⟩
 have HD4 := Lib.hid hD4
 have Hst4 := Lib.hid hst4
 clear hD4 hst4
 go_wp2_with fail
 refine (sync_some w4 HD4.out hs (findP_set _ _ _) hsy).mono ?_
 rintro e w5 ⟨rfl, S5, hD5, hst5⟩
 rw [putP_twice] at hD5
 have HD5 : Hid (Disk w5 S5 gd (putP L s ⟨l.take z, z⟩) wr0 (sy + 1)) := by
  have e1 : (cutF f z).by_ = l.take z := by rw [Hl.out]; rfl
  have e2 : (l.take z).length = z := by rw [List.length_take, ← Hn.out]; omega
  rw [e1, e2] at hD5
  exact hD5
 have Hst : Hid (Step w3 S w5 S5) := Hst4.out.trans hst5
 clear hD5 hst5
 go_wp2
 go_ret3
 have hw2 := Hb2.out.size
 have hw3 := Ho3.out.size
 have hw23 : w.heap.size < w2.heap.size := HJ2.out.lt
 refine ⟨_, S5, rfl, ((Hs3.out.only Hst.out.only (fun i hi => .inl (by have := hSl i hi; omega)) (by omega)).low (by omega)), (RsS.of Hs3.out (fun i hi => by have := hSl i hi; omega)).step Hst.out, (fun hk => by
  rcases Hst.out.new _ hk with h' | h'
  ·have := hSl _ h'; omega
  ·have := Hb2.out.size; have := hw23; omega), ?_⟩
 refine ⟨HD5.out, fun k hk => (Hst.out.new k hk).imp id (fun h => by omega), ?_, HJ3.out.only Hst.out.only (fun h => by have := hSl _ h; omega), ⟨d3, t3, b3, hd3, ht3, hb3, HT3.out.only Hst.out.only hSg⟩⟩
 exact ((Only.of_below Hb2.out (fun k => S k ∨ k = g)).trans Ho3.out (fun i h => .inl (.inr h))).trans Hst.out.only (fun i h => .inl (.inl h))
end Go.Proofs.YtholdcgkhicdmaaGreatDoor
namespace Go.Proofs.YtholdcgkhicdmaaGreatDoor
open Go.RowKit
def upd (P : Nat → Nat → Prop) (i : Nat) (S : Nat → Prop) : Nat → Nat → Prop := fun j => if j = i then S else P j
def AnyP (P : Nat → Nat → Prop) : Nat → Prop := fun k => ∃ i, P i k
structure Own6 (w : World) (P : Nat → Nat → Prop) : Prop where
 sep : ∀ i j k, P i k → P j k → i = j
 lt : ∀ i k, P i k → k < w.heap.size
structure Mv6 (w : World) (P : Nat → Nat → Prop) (w' : World) (P' : Nat → Nat → Prop) : Prop where
 only : Only (AnyP P) w w'
 new : ∀ i k, P' i k → AnyP P k ∨ w.heap.size ≤ k
section
variable {w w' w'' : World} {P P' P'' : Nat → Nat → Prop} {S' : Nat → Prop} {i : Nat}
theorem Own6.step (h : Own6 w P) (hs : Step w (P i) w' S') (hl : ∀ k, S' k → k < w'.heap.size) : Own6 w' (upd P i S') := by
 refine ⟨fun a b k ha hb => ?_, fun a k ha => ?_⟩
 ·unfold upd at ha hb
  by_cases h1 : a = i <;> by_cases h2 : b = i
  ·rw [h1, h2]
  ·rw [if_pos h1] at ha
   rw [if_neg h2] at hb
   rcases hs.new k ha with h' | h'
   ·exact absurd (h.sep i b k h' hb).symm h2
   ·have := h.lt b k hb; omega
  ·rw [if_neg h1] at ha
   rw [if_pos h2] at hb
   rcases hs.new k hb with h' | h'
   ·exact absurd (h.sep i a k h' ha).symm h1
   ·have := h.lt a k ha; omega
  ·rw [if_neg h1] at ha
   rw [if_neg h2] at hb
   exact h.sep a b k ha hb
 ·unfold upd at ha
  by_cases h1 : a = i
  ·rw [if_pos h1] at ha; exact hl k ha
  ·rw [if_neg h1] at ha; exact Nat.lt_of_lt_of_le (h.lt a k ha) hs.only.size
theorem Own6.grow (h : Own6 w P) (hz : w.heap.size ≤ w'.heap.size) : Own6 w' P := ⟨h.sep, fun a k ha => Nat.lt_of_lt_of_le (h.lt a k ha) hz⟩
theorem Own6.not (h : Own6 w P) {i j k : Nat} (hi : P i k) (hj : i ≠ j) : ¬ P j k := fun h' => hj (h.sep i j k hi h')
theorem Mv6.refl (w : World) (P : Nat → Nat → Prop) : Mv6 w P w P := ⟨Only.refl _ _, fun i _ h => .inl ⟨i, h⟩⟩
theorem Mv6.trans (h : Mv6 w P w' P') (k : Mv6 w' P' w'' P'') : Mv6 w P w'' P'' :=
 ⟨h.only.trans k.only (fun j ⟨i, hj⟩ => h.new i j hj), fun i j hj => (k.new i j hj).elim (fun ⟨i', h'⟩ => h.new i' j h') (fun h' => .inr (Nat.le_trans h.only.size h'))⟩
theorem Mv6.of_step (hs : Step w (P i) w' S') : Mv6 w P w' (upd P i S') :=
 ⟨hs.only.mono fun k hk => ⟨i, hk⟩, fun j k hj => by
  unfold upd at hj
  by_cases h1 : j = i
  ·rw [if_pos h1] at hj
   exact (hs.new k hj).imp (fun h => ⟨i, h⟩) id
  ·rw [if_neg h1] at hj
   exact .inl ⟨j, hj⟩⟩
theorem Mv6.of_below (hb : Below w.heap.size w w') (P : Nat → Nat → Prop) : Mv6 w P w' P := ⟨Only.of_below hb _, fun i _ h => .inl ⟨i, h⟩⟩
end
structure Lb (w : World) (P : Nat → Nat → Prop) (A : Option Addr) (l : List Pr) : Prop where
 rd : RdP w w.heap.size A l
 ap : ∀ a, A = some a → 0 < l.length → ∀ i, ¬ P i a.block
section
variable {w w' : World} {P P' : Nat → Nat → Prop} {A : Option Addr} {l : List Pr}
theorem Lb.mv (h : Lb w P A l) (hm : Mv6 w P w' P') : Lb w' P' A l :=
 ⟨hm.only.rdP h.rd (fun a ha h0 ⟨i, hi⟩ => h.ap a ha h0 i hi), fun a ha h0 i hi => (hm.new i _ hi).elim (fun ⟨j, hj⟩ => h.ap a ha h0 j hj) (fun h' => by have := rdP_lt h.rd ha h0; omega)⟩
theorem Lb.below (h : Lb w P A l) (hb : Below w.heap.size w w') : Lb w' P A l := h.mv (Mv6.of_below hb P)
end
def evC (e : Ett) : List Value := [.int .u8 e.x.o, .int .u64 e.x.q, .int .u64 e.x.t, .string e.x.r, .slice e.A e.x.l.length e.c, .int .u8 e.x.s, .int .u8 e.x.p, .int .i64 e.x.v, .int .u8 e.x.w]
def cellsV (L : List Ett) : List Value := L.flatMap evC
theorem evC_length (e : Ett) : (evC e).length = 9 := rfl
theorem cellsV_nil : cellsV [] = [] := rfl
theorem cellsV_cons (e : Ett) (L : List Ett) : cellsV (e :: L) = evC e ++ cellsV L := by simp [cellsV]
theorem cellsV_append (a b : List Ett) : cellsV (a ++ b) = cellsV a ++ cellsV b := by simp [cellsV]
theorem cellsV_length : ∀ L : List Ett, (cellsV L).length = L.length * 9
 | [] => rfl
 | e :: L => by rw [cellsV_cons, List.length_append, evC_length, cellsV_length L, List.length_cons]; omega
theorem cellsV_one (L : List Ett) : ∀ u ∈ cellsV L, u.oneCell' = true := by
 intro u hu
 obtain ⟨e, _, hu⟩ := List.mem_flatMap.1 hu
 simp only [evC, List.mem_cons, List.not_mem_nil, or_false] at hu
 rcases hu with rfl | rfl | rfl | rfl | rfl | rfl | rfl | rfl | rfl <;> rfl
theorem cellsV_take (L : List Ett) (k : Nat) : cellsV (L.take k) = (cellsV L).take (k * 9) := by
 by_cases hk : k ≤ L.length
 ·have h : cellsV L = cellsV (L.take k) ++ cellsV (L.drop k) := by rw [← cellsV_append, List.take_append_drop]
  rw [h, List.take_left' (by rw [cellsV_length, List.length_take]; omega)]
 ·rw [List.take_of_length_le (by omega), List.take_of_length_le (by rw [cellsV_length]; omega)]
theorem cellsV_get {L : List Ett} {k j : Nat} {e : Ett} {v : Value} (hk : L[k]? = some e) (hj : (evC e)[j]? = some v) : (cellsV L)[k * 9 + j]? = some v := by
 have hkl := (List.getElem?_eq_some_iff.1 hk).1
 have hj9 : j < 9 := by have := (List.getElem?_eq_some_iff.1 hj).1; rwa [evC_length] at this
 have hd : L.drop k = e :: L.drop (k + 1) := by
  rw [List.drop_eq_getElem_cons hkl]
  congr 1
  exact (List.getElem?_eq_some_iff.1 hk).2
 have h : cellsV L = cellsV (L.take k) ++ (evC e ++ cellsV (L.drop (k + 1))) := by rw [← cellsV_cons, ← hd, ← cellsV_append, List.take_append_drop]
 have hl : (cellsV (L.take k)).length = k * 9 := by rw [cellsV_length, List.length_take]; congr 1; omega
 rw [h, List.getElem?_append_right (by omega), hl, Nat.add_sub_cancel_left, List.getElem?_append_left (by rw [evC_length]; exact hj9)]
 exact hj
structure Mod (x : It) : Prop where
 ok : OkI x
 sh : ShortI x
 ln : x.l.length ≤ 1000
 lb : (itemB x).length ≤ 100000
structure FeOk (w : World) (P : Nat → Nat → Prop) (e : Ett) : Prop where
 m : Mod e.x
 g : e.x.g = false
 z : e.x.ga = 0 ∧ e.x.gf = 0 ∧ e.x.gt = 0
 nil : e.A = none → e.x.l.length = 0
 lb : Lb w P e.A e.x.l
theorem FeOk.mv {w w' : World} {P P' : Nat → Nat → Prop} {e : Ett} (h : FeOk w P e) (hm : Mv6 w P w' P') : FeOk w' P' e := ⟨h.m, h.g, h.z, h.nil, h.lb.mv hm⟩
structure Rc where
 gd : Nat
 g : Nat
 st : Nat
 jb : Nat
 sq : Nat
 fv : Value
 nm : ByteArray
 LL : List (ByteArray × Fl)
 gen : Nat
 first : Nat
 self : Nat
 life : Nat
 X : Sp
 L : List Ett
 F : List Ett
def stC (R : Rc) : Array Value := #[.pointer (some ⟨R.gd, 0, none⟩), .pointer (some ⟨R.g, 0, none⟩), .pointer (some ⟨R.jb, 0, none⟩), .int .u64 R.gen, .int .i64 R.first, .int .u8 R.self, .int .u64 R.life, .pointer (some ⟨R.sq, 0, none⟩), R.fv]
structure DkT (w : World) (S : Nat → Prop) (gd g : Nat) (LL : List (ByteArray × Fl)) (n : Nat) : Prop where
 dk : ∃ wr sy, wr ≤ n ∧ sy ≤ n ∧ Disk w S gd LL wr sy
 tab : ∃ d t b, d ≤ 1 ∧ t ≤ 30000 * n ∧ b ≤ 60000 * n ∧ Tab w g d t b
structure Sto (w : World) (P : Nat → Nat → Prop) (R : Rc) (n : Nat) : Prop where
 own : Own6 w P
 dt : DkT w (P 0) R.gd R.g R.LL n
 p1 : P 1 R.g
 p2 : P 2 R.st
 p3 : P 3 R.jb
 blk : w.heap[R.st]? = some (.cells (stC R) 112 (0, 0))
 j : JAt w R.jb R.gd R.g R.nm
 sp : SpAt w (P 4) R.sq R.X R.L
 lab : ∀ e ∈ R.L, ∀ a, e.A = some a → 0 < e.x.l.length → ∀ i, ¬ P i a.block
 fr : w.ownsRow 0 41 9 R.fv R.F.length (cellsV R.F)
 fP : ∀ k, R.fv.ownBlock = some k → P 5 k
 fok : ∀ e ∈ R.F, FeOk w P e
section
variable {w w' : World} {P P' : Nat → Nat → Prop} {S S' : Nat → Prop} {gd g n m : Nat} {LL : List (ByteArray × Fl)} {R : Rc}
theorem DkT.only {T : Nat → Prop} (h : DkT w S gd g LL n) (ho : Only T w w') (h1 : ∀ k, S k → ¬ T k) (h2 : ¬ T g) : DkT w' S gd g LL n := by
 obtain ⟨wr, sy, a1, a2, a3⟩ := h.dk
 obtain ⟨d, t, b, b1, b2, b3, b4⟩ := h.tab
 exact ⟨⟨wr, sy, a1, a2, a3.keep ho h1⟩, ⟨d, t, b, b1, b2, b3, b4.only ho h2⟩⟩
theorem DkT.below (h : DkT w S gd g LL n) (hb : Below w.heap.size w w') : DkT w' S gd g LL n := h.only (T := fun _ => False) (Only.of_below hb _) (fun _ _ h => h) (fun h => h)
theorem DkT.more (h : DkT w S gd g LL n) (hm : n ≤ m) : DkT w S gd g LL m := by
 obtain ⟨wr, sy, a1, a2, a3⟩ := h.dk
 obtain ⟨d, t, b, b1, b2, b3, b4⟩ := h.tab
 exact ⟨⟨wr, sy, by omega, by omega, a3⟩, ⟨d, t, b, b1, by omega, by omega, b4⟩⟩
theorem DkT.lt (h : DkT w S gd g LL n) : ∀ k, S k → k < w.heap.size := by
 obtain ⟨wr, sy, a1, a2, a3⟩ := h.dk
 exact a3.ltA
theorem DkT.glt (h : DkT w S gd g LL n) : g < w.heap.size := by
 obtain ⟨d, t, b, b1, b2, b3, b4⟩ := h.tab
 exact b4.lt
theorem Sto.below (h : Sto w P R n) (hb : Below w.heap.size w w') : Sto w' P R n :=
 ⟨h.own.grow hb.size, h.dt.below hb, h.p1, h.p2, h.p3, (hb.block _ (h.own.lt 2 _ h.p2)).trans h.blk, h.j.below hb, h.sp.below hb, h.lab, (Only.of_below hb (fun _ => False)).own h.fr (fun _ _ h => h), h.fP, fun e he => (h.fok e he).mv (Mv6.of_below hb P)⟩
theorem Sto.more (h : Sto w P R n) (hm : n ≤ m) : Sto w P R m := ⟨h.own, h.dt.more hm, h.p1, h.p2, h.p3, h.blk, h.j, h.sp, h.lab, h.fr, h.fP, h.fok⟩
theorem lab_mv (hm : Mv6 w P w' P') {L : List Ett} (hL : ∀ e ∈ L, EntOk w S e) (h : ∀ e ∈ L, ∀ a, e.A = some a → 0 < e.x.l.length → ∀ i, ¬ P i a.block) : ∀ e ∈ L, ∀ a, e.A = some a → 0 < e.x.l.length → ∀ i, ¬ P' i a.block :=
 fun e he a ha h0 i hi => (hm.new i _ hi).elim (fun ⟨j, hj⟩ => h e he a ha h0 j hj) (fun h' => by have := rdP_lt (hL e he).rd ha h0; omega)
theorem Sto.disk (h : Sto w P R n) (hs : Step w (P 0) w' S') {LL' : List (ByteArray × Fl)} (hd : DkT w' S' R.gd R.g LL' m) : Sto w' (upd P 0 S') { R with LL := LL' } m ∧ Mv6 w P w' (upd P 0 S') := by
 have hm := Mv6.of_step hs
 have hb : ∀ {j k : Nat}, P j k → j ≠ 0 → ¬ P 0 k := fun hj hn h' => hn (h.own.sep _ _ _ hj h')
 refine ⟨⟨h.own.step hs hd.lt, hd, h.p1, h.p2, h.p3, (hs.only.block _ (h.own.lt 2 _ h.p2) (hb h.p2 (by decide))).trans h.blk, h.j.only hs.only (hb h.p3 (by decide)), ?_, lab_mv hm h.sp.ent h.lab, hs.only.own h.fr (fun k hk => hb (h.fP k hk) (by decide)), h.fP, fun e he => (h.fok e he).mv hm⟩, hm⟩
 exact h.sp.keep hs.only (fun k hk => hb hk (by decide)) (fun e he a ha h0 => h.lab e he a ha h0 0)
theorem Sto.disks (h : Sto w P R n) (ho : Only (fun k => P 0 k ∨ k = R.g) w w') (hn : ∀ k, S' k → P 0 k ∨ w.heap.size ≤ k) {LL' : List (ByteArray × Fl)} (hd : DkT w' S' R.gd R.g LL' m) : Sto w' (upd P 0 S') { R with LL := LL' } m ∧ Mv6 w P w' (upd P 0 S') := by
 have hm : Mv6 w P w' (upd P 0 S') := ⟨ho.mono fun k hk => hk.elim (fun h => ⟨0, h⟩) (fun e => ⟨1, by rw [e]; exact h.p1⟩), fun j k hj => by
  unfold upd at hj
  by_cases h1 : j = 0
  ·rw [if_pos h1] at hj
   exact (hn k hj).imp (fun h => ⟨0, h⟩) id
  ·rw [if_neg h1] at hj
   exact .inl ⟨j, hj⟩⟩
 have hb : ∀ {j k : Nat}, P j k → j ≠ 0 → j ≠ 1 → ¬ (P 0 k ∨ k = R.g) := fun hj h0 h1 h' => h'.elim (fun h' => h0 (h.own.sep _ _ _ hj h')) (fun e => h1 (h.own.sep _ _ _ hj (by rw [e]; exact h.p1)))
 refine ⟨⟨?_, hd, h.p1, h.p2, h.p3, (ho.block _ (h.own.lt 2 _ h.p2) (hb h.p2 (by decide) (by decide))).trans h.blk, h.j.only ho (hb h.p3 (by decide) (by decide)), ?_, lab_mv hm h.sp.ent h.lab, ho.own h.fr (fun k hk => hb (h.fP k hk) (by decide) (by decide)), h.fP, fun e he => (h.fok e he).mv hm⟩, hm⟩
 ·refine ⟨fun a b k ha hb => ?_, fun a k ha => ?_⟩
  ·unfold upd at ha hb
   by_cases h1 : a = 0 <;> by_cases h2 : b = 0
   ·rw [h1, h2]
   ·rw [if_pos h1] at ha
    rw [if_neg h2] at hb
    rcases hn k ha with h' | h'
    ·exact h.own.sep _ _ _ (by rw [h1]; exact h') hb
    ·have := h.own.lt b k hb; omega
   ·rw [if_neg h1] at ha
    rw [if_pos h2] at hb
    rcases hn k hb with h' | h'
    ·exact h.own.sep _ _ _ ha (by rw [h2]; exact h')
    ·have := h.own.lt a k ha; omega
   ·rw [if_neg h1] at ha
    rw [if_neg h2] at hb
    exact h.own.sep _ _ _ ha hb
  ·unfold upd at ha
   by_cases h1 : a = 0
   ·rw [if_pos h1] at ha; exact hd.lt k ha
   ·rw [if_neg h1] at ha; exact Nat.lt_of_lt_of_le (h.own.lt a k ha) ho.size
 ·exact h.sp.keep ho (fun k hk => hb hk (by decide) (by decide)) (fun e he a ha h0 hk => hk.elim (h.lab e he a ha h0 0) (fun e' => h.lab e he a ha h0 1 (by rw [e']; exact h.p1)))
theorem Sto.set (h : Sto w P R n) (R' : Rc) (o : Nat) (v : Value) (hC : (stC R).setIfInBounds o v = stC R') (e1 : R'.gd = R.gd) (e2 : R'.g = R.g) (e3 : R'.st = R.st) (e4 : R'.jb = R.jb) (e5 : R'.nm = R.nm) (e6 : R'.LL = R.LL)
  (e7 : R'.sq = R.sq) (e8 : R'.X = R.X) (e9 : R'.L = R.L) (e10 : R'.fv = R.fv) (e11 : R'.F = R.F) : Sto (w.setCell ⟨R.st, o, none⟩ v) P R' n ∧ Mv6 w P (w.setCell ⟨R.st, o, none⟩ v) P := by
 have hon : Only (P 2) w (w.setCell ⟨R.st, o, none⟩ v) := Only.setCell _ _ _ h.p2
 have hm : Mv6 w P (w.setCell ⟨R.st, o, none⟩ v) P := ⟨hon.mono fun k hk => ⟨2, hk⟩, fun i _ hi => .inl ⟨i, hi⟩⟩
 have hb : ∀ {j k : Nat}, P j k → j ≠ 2 → ¬ P 2 k := fun hj hn h' => hn (h.own.sep _ _ _ hj h')
 refine ⟨⟨h.own.grow hon.size, ?_, by rw [e2]; exact h.p1, by rw [e3]; exact h.p2, by rw [e4]; exact h.p3, ?_, ?_, ?_, ?_, ?_, ?_, ?_⟩, hm⟩
 ·rw [e1, e2, e6]
  exact h.dt.only hon (fun k hk => hb hk (by decide)) (hb h.p1 (by decide))
 ·rw [e3, ← hC]
  exact heap_setCell_same _ R.st o _ _ v h.blk
 ·rw [e1, e2, e4, e5]
  exact h.j.only hon (hb h.p3 (by decide))
 ·rw [e7, e8, e9]
  exact h.sp.keep hon (fun k hk => hb hk (by decide)) (fun e he a ha h0 => h.lab e he a ha h0 2)
 ·rw [e9]; exact h.lab
 ·rw [e10, e11]; exact hon.own h.fr (fun k hk => hb (h.fP k hk) (by decide))
 ·rw [e10]; exact h.fP
 ·rw [e11]; exact fun e he => (h.fok e he).mv hm
end
def alertB (a b : It) : Bool := decide (a.r = b.r ∧ a.w = b.w ∧ a.l = b.l)
theorem alert_no {a b : It} (h : ¬ (a.r = b.r ∧ a.w = b.w ∧ a.l = b.l)) : alertB a b = false := decide_eq_false h
set_option maxRecDepth 100000 in
set_option maxHeartbeats 1000000 in
theorem sameAlert_any (a b : Ett) (w : World) (hn : a.x.l.length ≤ 1000) (ha : RdP w w.heap.size a.A a.x.l) (hb : RdP w w.heap.size b.A b.x.l) :
  Calls Tryz.prog 81 #[.agg (evC a).toArray, .agg (evC b).toArray] w fun e w' => e = .returned (.bool (alertB a.x b.x)) ∧ Below w.heap.size w w' := by
 obtain ⟨W, hW⟩ : ∃ V, V = (w.alloc (.cells (evC a).toArray 41)).alloc (.cells (evC b).toArray 41) := ⟨_, rfl⟩
 have hbW : Below w.heap.size w W := by rw [hW]; exact ((Below.refl _ _).alloc (Nat.le_refl _) _).alloc (by simp) _
 obtain ⟨g, hg⟩ : ∃ g, g = w.heap.size := ⟨_, rfl⟩
 have h0 : W.heap[g]? = some (.cells (evC a).toArray 41 (0, 0)) := by rw [hW, hg]; exact heap_alloc2_old _ _ _
 have h1 : W.heap[g + 1]? = some (.cells (evC b).toArray 41 (0, 0)) := by rw [hW, hg]; exact heap_alloc2_new _ _ _
 have a3 : W.cell? ⟨g, 3, none⟩ = some (.string a.x.r) := cell_of_row _ _ 3 _ _ _ h0
 have a4 : W.cell? ⟨g, 4, none⟩ = some (.slice a.A a.x.l.length a.c) := cell_of_row _ _ 4 _ _ _ h0
 have a8 : W.cell? ⟨g, 8, none⟩ = some (.int .u8 a.x.w) := cell_of_row _ _ 8 _ _ _ h0
 have b3 : W.cell? ⟨g + 1, 3, none⟩ = some (.string b.x.r) := cell_of_row _ _ 3 _ _ _ h1
 have b4 : W.cell? ⟨g + 1, 4, none⟩ = some (.slice b.A b.x.l.length b.c) := cell_of_row _ _ 4 _ _ _ h1
 have b8 : W.cell? ⟨g + 1, 8, none⟩ = some (.int .u8 b.x.w) := cell_of_row _ _ 8 _ _ _ h1
 have HS := Lib.hid (same_any a.A a.x.l.length a.c a.x.l b.A b.x.l.length b.c b.x.l W w.heap.size rfl rfl (by unfold maxLen; omega) (fun h => ((ha.below hbW) h)) (fun h => ((hb.below hbW) h)))
 have HW := Lib.hid hW
 have HB := Lib.hid hbW
 have HG := Lib.hid hg
 clear hW hbW h0 h1 ha hb hg
 go_enter Tryz.func81, Tryz.ntmps81
 go_upto_region 1 with fail
 rw [← HW.out, ← HG.out]
 by_cases hr : a.x.r = b.x.r
 case' neg =>
  have kr : (a.x.r.toList == b.x.r.toList) = false := str_ne hr
  have HN : Hid (alertB a.x b.x = false) := alert_no (fun e => hr e.1)
  clear hr
  go_wp2
  go_ret
  exact ⟨by rw [HN.out]; rfl, HB.out⟩
 case' pos =>
  have kr : (a.x.r.toList == b.x.r.toList) = true := str_eq hr
  by_cases hw : a.x.w = b.x.w
  case' neg =>
   have kw : ((a.x.w : Int) == (b.x.w : Int)) = false := by rw [beq_eq_false_iff_ne]; omega
   have HN : Hid (alertB a.x b.x = false) := alert_no (fun e => hw e.2.1)
   clear hr hw
   go_wp2
   go_ret
   exact ⟨by rw [HN.out]; rfl, HB.out⟩
  case' pos =>
   have kw : ((a.x.w : Int) == (b.x.w : Int)) = true := by rw [beq_iff_eq]; omega
   have HN : Hid (alertB a.x b.x = decide (a.x.l = b.x.l)) := by show _ = _; unfold alertB; rw [decide_eq_decide]; exact ⟨fun e => e.2.2, fun e => ⟨hr, hw, e⟩⟩
   clear hr hw
   go_wp2_with fail
   refine HS.out.mono ?_
   rintro e w3 ⟨rfl, q, rfl⟩
   go_wp2
   go_ret
   exact ⟨by rw [HN.out]; rfl, cbelow_drewN HB.out q⟩
theorem infoEvP : (Tryz.prog.info? 41).map (·.size) = some 9 := by kernel_rfl
theorem itC_ev (x : It) (A : Option Addr) (c : Nat) : ∀ j u, (evC ⟨0, x, A, c⟩)[j]? = some u → ((itC x A c).toArray)[1 + j]? = some u := by
 intro j u h
 have hj : j < 9 := (List.getElem?_eq_some_iff.1 h).1
 match j, hj with
 | 0, _ => exact h | 1, _ => exact h | 2, _ => exact h | 3, _ => exact h | 4, _ => exact h | 5, _ => exact h | 6, _ => exact h | 7, _ => exact h | 8, _ => exact h
theorem box_ev {w : World} {p : Nat} {x : It} {A : Option Addr} {c : Nat} (h : w.heap[p]? = some (.cells (itC x A c).toArray 47 (0, 0))) : w.rangeAt p 1 (evC ⟨0, x, A, c⟩) := fun j u hu => by
 rw [cell_of_row w p (1 + j) _ _ _ h]
 exact itC_ev x A c j u hu
theorem note1_any (e : Ett) (x : It) (A : Option Addr) (c p : Nat) (w : World) (hn : e.x.l.length ≤ 1000) (he : RdP w w.heap.size e.A e.x.l) (hp : w.heap[p]? = some (.cells (itC x A c).toArray 47 (0, 0))) (hx : RdP w w.heap.size A x.l) :
  Calls Tryz.prog 80 #[.agg (evC e).toArray, .pointer (some ⟨p, 0, none⟩)] w fun r w' => r = .returned (.bool (alertB e.x x)) ∧ Below w.heap.size w w' := by
 obtain ⟨W, hW⟩ : ∃ V, V = w.alloc (.cells (evC e).toArray 41) := ⟨_, rfl⟩
 have hb : Below w.heap.size w W := by rw [hW]; exact (Below.refl _ _).alloc (Nat.le_refl _) _
 have h0 : W.heap[w.heap.size]? = some (.cells (evC e).toArray 41 (0, 0)) := by rw [hW]; exact heap_alloc_new _ _
 have hpl := (Array.getElem?_eq_some_iff.1 hp).1
 have hr : W.rangeAt p 1 (evC ⟨0, x, A, c⟩) := rangeAt_below (box_ev hp) hpl hb
 have HS := Lib.hid (sameAlert_any e ⟨0, x, A, c⟩ W hn ((he.below hb).more hb.size) ((hx.below hb).more hb.size))
 have H0 := Lib.hid h0
 have HR := Lib.hid hr
 have HB := Lib.hid hb
 have HW := Lib.hid hW
 clear hW hb h0 hr he hp hx
 go_enter Tryz.func80, Tryz.ntmps80
 go_upto_region 1 with fail
 rw [← HW.out]
 go_wp2_with (first
  | (refine wpList_load_row rfl _ _ rfl w.heap.size rfl _ _ _ _ H0.out Tryz.underlying41 rfl infoEvP ?_)
  | (refine wpList_load_mid rfl _ _ rfl p 1 rfl (evC ⟨0, x, A, c⟩) _ HR.out Tryz.underlying41 rfl infoEvP ?_)
  | fail)
 refine HS.out.mono ?_
 rintro _ w2 ⟨rfl, hb2⟩
 have HB2 := Lib.hid (HB.out.trans (hb2.mono HB.out.size))
 clear hb2
 go_wp2
 go_ret
 exact ⟨rfl, HB2.out⟩
structure Rows9 (w : World) (b p : Nat) (x : It) (A : Option Addr) (c : Nat) (L : List Ett) : Prop where
 box : w.heap[p]? = some (.cells (itC x A c).toArray 47 (0, 0))
 pb : p ≠ b
 rx : RdP w w.heap.size A x.l
 nx : ∀ a, A = some a → 0 < x.l.length → a.block ≠ b
 ln : ∀ e ∈ L, e.x.l.length ≤ 1000
 re : ∀ e ∈ L, RdP w w.heap.size e.A e.x.l
 ne : ∀ e ∈ L, ∀ a, e.A = some a → 0 < e.x.l.length → a.block ≠ b
section
variable {w w' : World} {b p c : Nat} {x : It} {A : Option Addr} {L : List Ett}
theorem Rows9.only (h : Rows9 w b p x A c L) (ho : Only (fun k => k = b) w w') : Rows9 w' b p x A c L :=
 ⟨(ho.block p (Array.getElem?_eq_some_iff.1 h.box).1 h.pb).trans h.box, h.pb, ho.rdP h.rx h.nx, h.nx, h.ln, fun e he => ho.rdP (h.re e he) (h.ne e he), h.ne⟩
theorem Rows9.below (h : Rows9 w b p x A c L) (hb : Below w.heap.size w w') : Rows9 w' b p x A c L := h.only (Only.of_below hb _)
end
theorem rangeV {w : World} {base b n c : Nat} {L : List Ett} (ho : w.ownsRow base 41 9 (.slice (some ⟨b, 0, none⟩) n c) n (cellsV L)) {k : Nat} {e : Ett} (hk : L[k]? = some e) : w.rangeAt b (k * 9) (evC e) := fun j u hj => by
 have := ho.cells (g := b) rfl _ _ (cellsV_get hk hj)
 rw [Addr.add_lit, Nat.zero_add] at this
 exact this
def keepB (x : It) (e : Ett) : Bool := !alertB e.x x
def firstV (x : It) (L : List Ett) (k : Nat) : Prop := (∀ j e, j < k → L[j]? = some e → alertB e.x x = false)
theorem ent80 : ∀ args w, (callFunc 80 args).run Tryz.prog w = .ok (.enter 80 args) w := Go.Proofs.enters_of Tryz.func80 (by kernel_rfl) rfl
set_option maxRecDepth 100000 in
set_option maxHeartbeats 1000000 in
theorem indexFunc_any (b p n c : Nat) (cx : Nat) (x : It) (A : Option Addr) (L : List Ett) (w : World) (hn : n = L.length) (hm : n ≤ 100000) (hr : Rows9 w b p x A cx L) (ho : w.ownsRow 0 41 9 (.slice (some ⟨b, 0, none⟩) n c) n (cellsV L)) :
  Calls Tryz.prog 119 #[.slice (some ⟨b, 0, none⟩) n c, .func (.func 80) #[] #[.pointer (some ⟨p, 0, none⟩)]] w fun r w' =>
   ((r = .returned (.int .i64 (-1)) ∧ firstV x L n) ∨ (∃ k e, r = .returned (.int .i64 (k : Nat)) ∧ L[k]? = some e ∧ alertB e.x x = true ∧ firstV x L k)) ∧ Below w.heap.size w w' := by
 have hent := ent80
 have HN := Lib.hid hn
 have HR := Lib.hid hr
 have HO := Lib.hid ho
 have hbl := (ho.lt b rfl).2
 clear hn hr ho
 go_enter Tryz.func119, Tryz.ntmps119
 go_upto_region 2 with fail
 go_loopw [8] (fun iv wx => ∃ k : Nat, k ≤ n ∧ iv = .int .i64 k ∧ Hid (firstV x L k) ∧ Hid (Below w.heap.size w wx)) (fun iv _ => n - (intOf iv).toNat)
 case atStart => exact ⟨0, Nat.zero_le _, rfl, fun j e hj => absurd hj (by omega), Below.refl _ _⟩
 case round =>
  obtain ⟨k, hk, rfl, HF, HB⟩ := hrel
  by_cases hlt : k < n
  ·obtain ⟨e, he⟩ : ∃ e, L[k]? = some e := ⟨L[k]'(by rw [← HN.out]; exact hlt), List.getElem?_eq_getElem _⟩
   have hem := List.mem_iff_getElem?.2 ⟨k, he⟩
   have hrg : wr.rangeAt b (k * 9) (evC e) := rangeAt_below (rangeV HO.out he) hbl HB.out
   have hr1 := HR.out.below HB.out
   have HC := Lib.hid (note1_any e x A cx p wr (hr1.ln e hem) (hr1.re e hem) hr1.box hr1.rx)
   have HE := Lib.hid he
   have HRG := Lib.hid hrg
   clear he hrg hr1 hem
   go_wp2_with (first | (refine wpList_load_mid rfl _ _ rfl b (k * 9) rfl (evC e) _ HRG.out Tryz.underlying41 rfl infoEvP ?_) | fail)
   refine HC.out.mono ?_
   rintro _ w2 ⟨rfl, hb2⟩
   have HB2 := Lib.hid (HB.out.trans (hb2.mono HB.out.size))
   clear hb2 HC HRG
   cases hal : alertB e.x x with
   | true =>
     have HAL := Lib.hid hal
     clear hal
     go_wp2
     go_ret
     exact ⟨.inr ⟨k, e, rfl, HE.out, HAL.out, HF.out⟩, HB2.out⟩
   | false =>
     have HF2 : Hid (firstV x L (k + 1)) := fun j e' hj hj' => by
      rcases Nat.lt_succ_iff_lt_or_eq.1 hj with h1 | rfl
      ·exact HF.out j e' h1 hj'
      ·rw [HE.out] at hj'; injection hj' with hj'; rw [← hj']; exact hal
     clear hal
     go_wp2
     go_roundw
     case rel => exact ⟨k + 1, by omega, by go_num, HF2.out, HB2.out⟩
     case measure => simp [intOf]; omega
  ·obtain rfl : k = n := by omega
   go_wp2
   go_ret
   exact ⟨.inl ⟨rfl, HF.out⟩, HB.out⟩
end Go.Proofs.YtholdcgkhicdmaaGreatDoor