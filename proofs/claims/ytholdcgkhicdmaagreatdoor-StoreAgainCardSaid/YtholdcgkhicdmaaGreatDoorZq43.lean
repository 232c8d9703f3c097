/- Several texts in one: StBeg, StBg2, StBg3. -/
import Derived.Test.YtholdcgkhicdmaaGreatDoorZq42
namespace Go.Proofs.YtholdcgkhicdmaaGreatDoor
open Go.RowKit
def recs9 (LL : List (ByteArray × Fl)) (s : ByteArray) : List (List Nat) := match findP LL s with
 | none => []
 | some f => (scanJ f.by_).1
def open9 (LL : List (ByteArray × Fl)) (s : ByteArray) : List (ByteArray × Fl) := match findP LL s with
 | none => LL
 | some f => putP LL s ⟨f.by_.take (scanJ f.by_).2, (scanJ f.by_).2⟩
def RecAt (w : World) (P : Nat → Nat → Prop) (A : Option Addr) (j : Nat) (l : List Nat) : Prop :=
 ∃ b Aj cj, A = some ⟨b, 0, none⟩ ∧ b < w.heap.size ∧ (∀ i, ¬ P i b) ∧ w.cell? ⟨b, j, none⟩ = some (.slice Aj l.length cj) ∧ l.length ≤ cj ∧ (Aj = none → l.length = 0) ∧ OkB l ∧ RdB w w.heap.size Aj l ∧ ∀ a, Aj = some a → 0 < l.length → ∀ i, ¬ P i a.block
theorem RecAt.mv {w w' : World} {P P' : Nat → Nat → Prop} {A : Option Addr} {j : Nat} {l : List Nat} (h : RecAt w P A j l) (hm : Mv6 w P w' P') : RecAt w' P' A j l := by
 obtain ⟨b, Aj, cj, rfl, hb, hP, hc, h1, h2, h3, h4, h5⟩ := h
 refine ⟨b, Aj, cj, rfl, Nat.lt_of_lt_of_le hb hm.only.size, fun i hi => (hm.new i b hi).elim (fun ⟨k, hk⟩ => hP k hk) (fun h => by omega), (hm.only.cell (p := ⟨b, j, none⟩) hb (fun ⟨i, hi⟩ => hP i hi)).trans hc, h1, h2, h3, (hm.only.rdB h4 (Nat.le_refl _) (fun a ha h0 ⟨i, hi⟩ => h5 a ha h0 i hi)).more hm.only.size, fun a ha h0 i hi => ?_⟩
 rcases hm.new i _ hi with ⟨k, hk⟩ | h6
 ·exact h5 a ha h0 k hk
 ·obtain ⟨b', o', e, hb', _⟩ := h4 h0
  rw [ha] at e
  injection e with e
  rw [e] at h6
  simp at h6
  omega
def RecRow (w : World) (base g : Nat) (S : Nat → Prop) (A : Option Addr) (L : List (List Nat)) : Prop :=
 ∀ (j : Nat) l, L[j]? = some l → ∃ b Aj cj, A = some ⟨b, 0, none⟩ ∧ b < w.heap.size ∧ (base ≤ b ∧ b ≠ g ∧ ¬ S b) ∧ w.cell? ⟨b, j, none⟩ = some (.slice Aj l.length cj) ∧ l.length ≤ cj ∧ (Aj = none → l.length = 0) ∧ OkB l ∧ RdB w w.heap.size Aj l ∧ ∀ a, Aj = some a → 0 < l.length → base ≤ a.block ∧ a.block ≠ g ∧ ¬ S a.block
theorem recRow_of {w : World} {base g : Nat} {S : Nat → Prop} {v : Value} {L : List (List Nat)} (h : Rs w base g v L) (h2 : RsS S w g v L) : ∃ A c, v = .slice A L.length c ∧ RecRow w base g S A L := by
 obtain ⟨A, c, rfl⟩ := h.slice
 refine ⟨A, c, rfl, fun j l hl => ?_⟩
 obtain ⟨X, h⟩ := h
 obtain ⟨Y, k, k1, k2⟩ := h2
 have hj := (List.getElem?_eq_some_iff.1 hl).1
 obtain ⟨b, cap, hv, hge, hlt⟩ := h.own.form (by omega)
 injection hv with hv1 _ hv3
 subst hv1
 obtain ⟨x, hx⟩ : ∃ x, X[j]? = some x := ⟨X[j]'(by rw [h.len]; exact hj), List.getElem?_eq_getElem _⟩
 obtain ⟨y, hy⟩ : ∃ y, Y[j]? = some y := ⟨Y[j]'(by rw [k.len]; exact hj), List.getElem?_eq_getElem _⟩
 have q := h.each j x l hx hl
 have hc := h.own.cells (g := b) rfl j (rowC x) (by rw [List.getElem?_map, hx]; rfl)
 have hd := k.own.cells (g := b) rfl j (rowC y) (by rw [List.getElem?_map, hy]; rfl)
 rw [hc] at hd
 have hxy : x = y := by
  have e := Option.some.inj hd
  obtain ⟨x1, x2, x3⟩ := x
  obtain ⟨y1, y2, y3⟩ := y
  unfold rowC at e
  injection e with e1 e2 e3
  have e1 : x1 = y1 := e1
  have e2 : x2 = y2 := e2
  have e3 : x3 = y3 := e3
  rw [e1, e2, e3]
 subst hxy
 rw [Addr.add_lit, Nat.zero_add] at hc
 refine ⟨b, x.1, x.2.2, rfl, hlt, ⟨hge, fun e => h.vg (by rw [e]; rfl), k2 b rfl⟩, by rw [hc, ← q.n]; rfl, by rw [← q.n]; exact q.cap, fun e => by rw [← q.n]; exact q.nil e, q.ok, q.rd, fun a ha h0 => ⟨(q.far a ha h0).1, (q.far a ha h0).2.1, k1 j x l a hy hl ha h0⟩⟩
theorem jopen9 {w : World} {S : Nat → Prop} {gd g n : Nat} {LL : List (ByteArray × Fl)} (s : ByteArray) (h : DkT w S gd g LL n) (hSg : ¬ S g) (hn : n ≤ 3000) (hs : s.size ≤ maxLen) (hl : ∀ f, findP LL s = some f → f.by_.length ≤ 29000) :
  Calls Tryz.prog 59 #[.pointer (some ⟨gd, 0, none⟩), .pointer (some ⟨g, 0, none⟩), .string s] w fun e w' => ∃ A c k S', e = .returned (.tuple #[.pointer (some ⟨w.heap.size, 0, none⟩), .slice A k c, .int .i64 0]) ∧ k = (recs9 LL s).length ∧ RecRow w' (w.heap.size + 1) g S' A (recs9 LL s) ∧ DkT w' S' gd g (open9 LL s) (n + 1) ∧ JAt w' w.heap.size gd g s ∧ ¬ S' w.heap.size ∧ Only (fun k => S k ∨ k = g) w w' ∧ (∀ k, S' k → S k ∨ w.heap.size ≤ k) := by
 obtain ⟨wr, sy, a1, a2, a3⟩ := h.dk
 obtain ⟨d, t, b, b1, b2, b3, b4⟩ := h.tab
 unfold recs9 open9
 cases hf : findP LL s with
 | none =>
   refine (jopen_none s w a3 hs hf).mono ?_
   rintro _ w' ⟨jb, rfl, rfl, hj, hb⟩
   have h' := h.below hb
   exact ⟨none, 0, 0, S, rfl, rfl, fun j l hl => by simp at hl, h'.more (by omega), hj, fun hs => by have := a3.ltA _ hs; omega, Only.of_below hb _, fun k hk => .inl hk⟩
 | some f =>
   have hl := hl f hf
   refine (jopen_rows s f w a3 b4 b1 hSg (by omega) (by omega) hs hf (by omega)).mono ?_
   rintro _ w' ⟨v, S', rfl, h1, h2, h3, ho⟩
   obtain ⟨A, c, rfl, hrr⟩ := recRow_of h1 h2
   obtain ⟨d', t', b', c1, c2, c3, c4⟩ := ho.tab
   exact ⟨A, c, _, S', rfl, rfl, hrr, ⟨⟨wr, sy + 1, by omega, by omega, ho.dk⟩, ⟨d', t', b', c1, by omega, by omega, c4⟩⟩, ho.jat, h3, ho.only, ho.new⟩
def P0of (S : Nat → Prop) (g : Nat) (SQ : Nat → Prop) : Nat → Nat → Prop := fun i k => match i with
 | 0 => S k
 | 1 => k = g
 | 4 => SQ k
 | _ => False
def P6of (S : Nat → Prop) (g st jb : Nat) (SQ : Nat → Prop) : Nat → Nat → Prop := fun i k => match i with
 | 0 => S k
 | 1 => k = g
 | 2 => k = st
 | 3 => k = jb
 | 4 => SQ k
 | _ => False
def R0of (gd g st jb sq : Nat) (nm : ByteArray) (LL : List (ByteArray × Fl)) (gen self : Nat) (X : Sp) : Rc := ⟨gd, g, st, jb, sq, .slice none 0 0, nm, LL, gen, 0, self, 0, X, [], []⟩
theorem sto_start {w : World} {S SQ : Nat → Prop} {gd g st jb sq n gen self : Nat} {nm : ByteArray} {LL : List (ByteArray × Fl)} {X : Sp} (hd : DkT w S gd g LL n) (hsp : SpAt w SQ sq X []) (hj : JAt w jb gd g nm) (hst : w.heap[st]? = some (.cells (stC (R0of gd g st jb sq nm LL gen self X)) 112 (0, 0)))
  (h1 : ∀ k, S k → k ≠ g ∧ k ≠ st ∧ k ≠ jb ∧ ¬ SQ k) (h2 : g ≠ st ∧ g ≠ jb ∧ ¬ SQ g) (h3 : st ≠ jb ∧ ¬ SQ st) (h4 : ¬ SQ jb) (hg : g < w.heap.size) (hl : ∀ k, SQ k → k < w.heap.size) : Sto w (P6of S g st jb SQ) (R0of gd g st jb sq nm LL gen self X) n := by
 refine ⟨⟨fun i j k hi hj' => ?_, fun i k hi => ?_⟩, hd, rfl, rfl, rfl, hst, hj, hsp, fun e he => (by cases he), World.ownsRow_nil _ _ _ _, fun k hk => (by cases hk), fun e he => (by cases he)⟩
 ·match i, j, hi, hj' with
  | 0, 0, _, _ => rfl
  | 1, 1, _, _ => rfl
  | 2, 2, _, _ => rfl
  | 3, 3, _, _ => rfl
  | 4, 4, _, _ => rfl
  | 0, 1, a, b => exact absurd b (h1 k a).1
  | 0, 2, a, b => exact absurd b (h1 k a).2.1
  | 0, 3, a, b => exact absurd b (h1 k a).2.2.1
  | 0, 4, a, b => exact absurd b (h1 k a).2.2.2
  | 1, 0, b, a => exact absurd b (h1 k a).1
  | 2, 0, b, a => exact absurd b (h1 k a).2.1
  | 3, 0, b, a => exact absurd b (h1 k a).2.2.1
  | 4, 0, b, a => exact absurd b (h1 k a).2.2.2
  | 1, 2, a, b => exact absurd (a.symm.trans b) h2.1
  | 2, 1, b, a => exact absurd (a.symm.trans b) h2.1
  | 1, 3, a, b => exact absurd (a.symm.trans b) h2.2.1
  | 3, 1, b, a => exact absurd (a.symm.trans b) h2.2.1
  | 1, 4, a, b => have a : k = g := a; rw [a] at b; exact absurd b h2.2.2
  | 4, 1, b, a => have a : k = g := a; rw [a] at b; exact absurd b h2.2.2
  | 2, 3, a, b => exact absurd (a.symm.trans b) h3.1
  | 3, 2, b, a => exact absurd (a.symm.trans b) h3.1
  | 2, 4, a, b => have a : k = st := a; rw [a] at b; exact absurd b h3.2
  | 4, 2, b, a => have a : k = st := a; rw [a] at b; exact absurd b h3.2
  | 3, 4, a, b => have a : k = jb := a; rw [a] at b; exact absurd b h4
  | 4, 3, b, a => have a : k = jb := a; rw [a] at b; exact absurd b h4
 ·match i, hi with
  | 0, a => exact hd.lt k a
  | 1, a => have a : k = g := a; rw [a]; exact hg
  | 2, a => have a : k = st := a; rw [a]; exact (Array.getElem?_eq_some_iff.1 hst).1
  | 3, a => have a : k = jb := a; rw [a]; exact hj.lt
  | 4, a => exact hl k a
structure ReOkA (a : Ab) (r : List Nat) : Prop where
 hh : ∀ i, i < 32 → a.X.h i ≤ 1099511627776
 hv : sumE a.K + (itemB (partI (takeR (r, 0)).1 a.X.h)).length ≤ a.X.q ∨ a.X.v + cntE a.K < 18446744073709551615
 hf : a.K.length < 100000
 hF : a.F.length ≤ 90000
 ri : RiseE a.K
 q1 : 64 ≤ a.X.q
 q2 : a.X.q ≤ 65536
theorem rise_ers {L : List Ett} (h : RiseE (ers L)) : RiseE L := fun i j a b hij ha hb => h i j (er a) (er b) hij (by rw [ers_get, ha]; rfl) (by rw [ers_get, hb]; rfl)
theorem ReOkA.of {R : Rc} {r : List Nat} (h : ReOkA R.ab r) : ReOk R r :=
 ⟨h.hh, by have := h.hv; simp only [Rc.ab, sum_ers, cnt_ers] at this; exact this, by have := h.hf; simp only [Rc.ab, ers_len] at this; exact this, by have := h.hF; simp only [Rc.ab, List.length_map] at this; exact this, rise_ers h.ri, h.q1, h.q2⟩
def SyncPre (R : Rc) : Prop := R.first ≤ 1000000 ∧ R.X.q ≤ 65536 ∧ R.nm.size ≤ maxLen ∧ ∃ f, findP R.LL R.nm = some f ∧ (R.first + 4 * R.X.q + 1024 < f.by_.length → SnOk R ∧ OkB (4 :: snapB R.life R.X R.L (R.F.map (·.x))) ∧ R.nm = nmG R.gen ∧ R.gen + 1 < 100 ∧ R.LL = [(nmG R.gen, f)])
def SyncPost (R R' : Rc) : Prop := ∃ f, findP R.LL R.nm = some f ∧
 ((f.by_.length ≤ R.first + 4 * R.X.q + 1024 ∧ ∃ LL', R' = { R with LL := LL' } ∧ (LL' = putP R.LL R.nm ⟨f.by_, f.by_.length⟩ ∨ (LL' = R.LL ∧ f.syn = f.by_.length))) ∨
  (R.first + 4 * R.X.q + 1024 < f.by_.length ∧ ∃ jb, R' = { R with LL := [(nmG (R.gen + 1), ⟨laidR (4 :: snapB R.life R.X R.L (R.F.map (·.x))), (snapB R.life R.X R.L (R.F.map (·.x))).length + 9⟩)], nm := nmG (R.gen + 1), gen := R.gen + 1, first := (snapB R.life R.X R.L (R.F.map (·.x))).length + 9, jb := jb }))
theorem sto_sync9 {w : World} {P : Nat → Nat → Prop} {R : Rc} {n : Nat} (h : Sto w P R n) (hn : n ≤ 2000) (hp : SyncPre R) :
  Calls Tryz.prog 13 #[.pointer (some ⟨R.st, 0, none⟩)] w fun e w' => e = .returned (.int .i64 0) ∧ ∃ P' R', Sto w' P' R' (n + 7) ∧ Mv6 w P w' P' ∧ SyncPost R R' := by
 obtain ⟨h1, h2, h3, f, hf, hlong⟩ := hp
 by_cases hl : R.first + 4 * R.X.q + 1024 < f.by_.length
 ·obtain ⟨a1, a2, a3, a4, a5⟩ := hlong hl
  refine (sto_sync_long h hn h1 h2 a1 a2 a3 a4 a5 hl).mono ?_
  rintro _ w' ⟨rfl, P', jb, x1, x2⟩
  exact ⟨rfl, P', _, x1, x2, f, hf, .inr ⟨hl, jb, rfl⟩⟩
 ·refine (sto_sync_short h (by omega) h1 h2 h3 hf (by omega)).mono ?_
  rintro _ w' ⟨rfl, P', LL', x1, x2, x3⟩
  exact ⟨rfl, P', _, x1.more (by omega), x2, f, hf, .inl ⟨by omega, LL', rfl, x3⟩⟩
theorem ent64 : ∀ args w, (callFunc 64 args).run Tryz.prog w = .ok (.enter 64 args) w := Go.Proofs.enters_of Tryz.func64 (by kernel_rfl) rfl
theorem repAll_step {self gen : Nat} {a : Ab} {cs : List (List Nat)} {j : Nat} {c : List Nat} (h : cs[j]? = some c) : repAll self gen a (cs.take (j + 1)) = (repAll self gen a (cs.take j)).bind fun b => repA self gen b c := by
 unfold repAll
 rw [List.take_add_one, h, List.foldlM_append]
 simp
theorem repAll_stop {self gen : Nat} {a : Ab} {cs : List (List Nat)} {j : Nat} {c : List Nat} (h : cs[j]? = some c) {b : Ab} (hb : repAll self gen a (cs.take j) = some b) (hn : repA self gen b c = none) : repAll self gen a cs = none := by
 have h1 : repAll self gen a (cs.take (j + 1)) = none := by rw [repAll_step h, hb]; exact hn
 rw [← List.take_append_drop (j + 1) cs]
 unfold repAll at h1 ⊢
 rw [List.foldlM_append, h1]
 rfl
def BegBad (w : World) (S : Nat → Prop) (gd g : Nat) (SQ : Nat → Prop) (n self gen : Nat) (a0 : Ab) (cs : List (List Nat)) (e : Ending) (w' : World) : Prop :=
 ∃ z : Nat, e = .returned (.tuple #[.pointer none, .int .i64 z]) ∧ repAll self gen a0 cs = none ∧ (∃ (j : Nat) (c : List Nat) (b : Ab), cs[j]? = some c ∧ repAll self gen a0 (cs.take j) = some b ∧ ErrOf c z) ∧ Only (AnyP (P0of S g SQ)) w w' ∧ ∃ d t b, d ≤ 1 ∧ t ≤ 30000 * (n + 1) ∧ b ≤ 60000 * (n + 1) ∧ Tab w' g d t b
def BegGood (w : World) (S : Nat → Prop) (gd g : Nat) (SQ : Nat → Prop) (n self gen : Nat) (a0 : Ab) (LL : List (ByteArray × Fl)) (cs : List (List Nat)) (e : Ending) (w' : World) : Prop :=
 ∃ a R1 P' R', repAll self gen a0 cs = some a ∧ e = .returned (.tuple #[.pointer (some ⟨R'.st, 0, none⟩), .int .i64 0]) ∧ Sto w' P' R' (n + 9) ∧ Mv6 w (P0of S g SQ) w' P' ∧ SyncPost R1 R' ∧
  R1.gd = gd ∧ R1.g = g ∧ R1.self = self ∧ R1.gen = gen ∧ R1.nm = nmG gen ∧ R1.ab = { a with m := (a.m + 1) % 18446744073709551616 } ∧
  R1.LL = putP (open9 LL (nmG gen)) (nmG gen) ⟨(had (open9 LL (nmG gen)) (nmG gen)).by_ ++ laidR (3 :: leb ((a.m + 1) % 18446744073709551616)), (had (open9 LL (nmG gen)) (nmG gen)).syn⟩
set_option maxRecDepth 100000 in
set_option maxHeartbeats 8000000 in
theorem begin_any {ev : Value} {S SQ : Nat → Prop} {gd g sq n self gen : Nat} {X : Sp} {LL : List (ByteArray × Fl)} {os : List (Option Nat)} (w : World) (hd : DkT w S gd g LL n) (hn : n ≤ 1900) (hgl : g < w.heap.size) (hSg : ¬ S g) (hsp : SpAt w SQ sq X []) (hSQ : ∀ k, S k → ¬ SQ k) (hgQ : ¬ SQ g)
  (hG : GNs LL os) (hgen : topG os = gen) (hfew : LL.length < 64) (hv : w.cell? ⟨1, 0, none⟩ = some ev) (hvl : 1 < w.heap.size) (hv0 : ∀ i, ¬ P0of S g SQ i 1) (hev : ev = .nilIface ∨ ∃ te pe, ev = .iface te pe)
  (hT : ∃ os2, GNs (open9 LL (nmG gen)) os2 ∧ ∀ (i : Nat) p k, (open9 LL (nmG gen))[i]? = some p → os2[i]? = some (some k) → p.1 = nmG gen) (hLOl : (open9 LL (nmG gen)).length < 64) (hhad : (had (open9 LL (nmG gen)) (nmG gen)).by_.length ≤ 20000) (hno : ∀ p ∈ open9 LL (nmG gen), p.1 ≠ nmN) (hself : self < 256)
  (hl : ∀ f, findP LL (nmG gen) = some f → f.by_.length ≤ 20000) (hcl : ∀ c ∈ recs9 LL (nmG gen), c.length ≤ 20000) (hcn : (recs9 LL (nmG gen)).length ≤ 20000)
  (hre : ∀ (j k : Nat) r a, (recs9 LL (nmG gen))[j]? = some (k :: r) → repAll self gen ⟨X, [], [], 0, 0⟩ ((recs9 LL (nmG gen)).take j) = some a → ReOkA a r)
  (hsy : ∀ (a : Ab) (R1 : Rc), repAll self gen ⟨X, [], [], 0, 0⟩ (recs9 LL (nmG gen)) = some a → R1.self = self → R1.gen = gen → R1.nm = nmG gen → R1.ab = { a with m := (a.m + 1) % 18446744073709551616 } →
   R1.LL = putP (open9 LL (nmG gen)) (nmG gen) ⟨(had (open9 LL (nmG gen)) (nmG gen)).by_ ++ laidR (3 :: leb ((a.m + 1) % 18446744073709551616)), (had (open9 LL (nmG gen)) (nmG gen)).syn⟩ → SyncPre R1) :
  Calls Tryz.prog 32 #[.pointer (some ⟨gd, 0, none⟩), .pointer (some ⟨g, 0, none⟩), .int .u8 self, .pointer (some ⟨sq, 0, none⟩)] w fun e w' => BegBad w S gd g SQ n self gen ⟨X, [], [], 0, 0⟩ (recs9 LL (nmG gen)) e w' ∨ BegGood w S gd g SQ n self gen ⟨X, [], [], 0, 0⟩ LL (recs9 LL (nmG gen)) e w' := by
 obtain ⟨wr, sy, a1, a2, a3⟩ := hd.dk
 have hgen100 : gen < 100 := by rw [← hgen]; have := topG_lt hG os.length; rwa [List.take_length] at this
 have HNW := Lib.hid (newest_any w a3 hG (by omega) hv hvl hev)
 rw [hgen] at HNW
 have HFN := Lib.hid (fun W => fileName_any gen hgen100 W)
 have HJO := Lib.hid (fun W (hW : Below w.heap.size w W) => jopen9 (nmG gen) (hd.below hW) hSg (by omega) (nmG_max hgen100) (fun f hf => by have := hl f hf; omega))
 have HSP := Lib.hid hsp
 have HDS := Lib.hid (fun k hk => hd.lt k hk : ∀ k, S k → k < w.heap.size)
 have HSQL := Lib.hid hsp.lt
 obtain ⟨cs, hcs⟩ : ∃ z, z = recs9 LL (nmG gen) := ⟨_, rfl⟩
 obtain ⟨LO, hLO⟩ : ∃ z, z = open9 LL (nmG gen) := ⟨_, rfl⟩
 rw [← hcs] at HJO hcl hre hcn hsy ⊢
 rw [← hLO] at HJO hT hLOl hhad hno hsy
 have HSY := Lib.hid hsy
 have HRE := Lib.hid hre
 have HCL := Lib.hid hcl
 have HT := Lib.hid hT
 have HHAD := Lib.hid hhad
 have HNO := Lib.hid hno
 have HLO := Lib.hid hLO
 have HSEP := Lib.hid (⟨hSg, hSQ, hgQ⟩ : _ ∧ _ ∧ _)
 have HV := Lib.hid (⟨hv, hvl, hv0, hev⟩ : _ ∧ _ ∧ _ ∧ _)
 clear a1 a2 a3 hd hSg hsp hSQ hgQ hG hv hvl hv0 hev hT hhad hno hl hcl hre hcs hLO hsy
 go_enter Tryz.func32, Tryz.ntmps32
 go_wp2_with fail
 refine HNW.out.mono ?_
 rintro _ w1 ⟨rfl, hb1⟩
 have HB1 := Lib.hid hb1
 clear hb1 HNW
 go_wp2_with fail
 refine (HFN.out _).mono ?_
 rintro _ _ ⟨rfl, rfl⟩
 go_wp2_with fail
 refine (HJO.out _ HB1.out).mono ?_
 rintro _ w2 ⟨A2, c2, k2, S2, rfl, hk2, hrr, hd2, hj2, hSj, ho2, hn2⟩
 have hk2l : k2 ≤ 20000 := by rw [hk2]; exact hcn
 have HK2 := Lib.hid hk2
 have HRR := Lib.hid hrr
 have HD2 := Lib.hid hd2
 have HJ2 := Lib.hid hj2
 have HS2 := Lib.hid (⟨hSj, ho2, hn2⟩ : _ ∧ _ ∧ _)
 obtain ⟨jb, hjb⟩ : ∃ z, z = w1.heap.size := ⟨_, rfl⟩
 rw [← hjb] at HJ2 HS2 ⊢
 have HJB := Lib.hid hjb
 clear hk2 hrr hd2 hj2 hSj ho2 hn2 HJO HFN hjb
 go_upto_region 6 with fail
 obtain ⟨st, hst⟩ : ∃ z, z = w2.heap.size := ⟨_, rfl⟩
 obtain ⟨w3, hw3⟩ : ∃ V, V = (w2.alloc (.cells #[.pointer (some ⟨gd, 0, none⟩), .pointer (some ⟨g, 0, none⟩), .pointer (some ⟨jb, 0, none⟩), .int .u64 gen, .int .i64 0, .int .u8 self, .int .u64 0, .pointer (some ⟨sq, 0, none⟩), .slice none 0 0] 112)).alloc (.cells #[.pointer (some ⟨w2.heap.size, 0, none⟩)] 30) := ⟨_, rfl⟩
 rw [← hw3]
 have hst3 : w3.heap[w2.heap.size]? = some (.cells (stC (R0of gd g w2.heap.size jb sq (nmG gen) LO gen self X)) 112 (0, 0)) := by rw [hw3]; exact heap_alloc2_old _ _ _
 have hp3 : w3.cell? ⟨w2.heap.size + 1, 0, none⟩ = some (.pointer (some ⟨w2.heap.size, 0, none⟩)) := by rw [hw3, World.cell?_alloc_at _ _ _ _ (by simp)]; rfl
 have hb3 : Below w2.heap.size w2 w3 := by rw [hw3]; exact ((Below.refl _ _).alloc (Nat.le_refl _) _).alloc (by simp) _
 have hpl : w2.heap.size + 1 < w3.heap.size := by rw [hw3]; simp
 rw [← hst] at hst3 hp3 hpl ⊢
 have hw01 : w.heap.size ≤ w1.heap.size := HB1.out.size
 have hw12 : w1.heap.size ≤ w2.heap.size := HS2.out.2.1.size
 have hj1 : jb = w1.heap.size := HJB.out
 have hs2 : ∀ k, S2 k → S k ∨ w1.heap.size ≤ k := fun k hk => (HS2.out.2.2 k hk).imp id (fun h => by omega)
 have hsto : Sto w3 (P6of S2 g st jb SQ) (R0of gd g st jb sq (nmG gen) LO gen self X) (n + 1) := by
  refine sto_start (HD2.out.below hb3) ((HSP.out.keep (T := fun k => S k ∨ k = g) (Only.trans (Only.of_below HB1.out _) HS2.out.2.1 (fun i h => .inl h)) (fun k hk h => h.elim (fun h => HSEP.out.2.1 k h hk) (fun e => HSEP.out.2.2 (by rw [← e]; exact hk))) (fun e he => by cases he)).below hb3) (HJ2.out.below hb3) hst3 (fun k hk => ⟨fun e => ?_, fun e => ?_, fun e => ?_, fun e => ?_⟩) ⟨?_, ?_, HSEP.out.2.2⟩ ⟨?_, ?_⟩ ?_ ?_ ?_
  ·rw [e] at hk
   rcases hs2 g hk with h | h
   ·exact HSEP.out.1 h
   ·omega
  ·have := HD2.out.lt k hk; omega
  ·rw [e] at hk; exact HS2.out.1 hk
  ·rcases hs2 k hk with h | h
   ·exact HSEP.out.2.1 k h e
   ·have := HSQL.out k e; omega
  ·omega
  ·omega
  ·have := HJ2.out.lt; omega
  ·intro h; have := HSQL.out _ h; omega
  ·intro h; have := HSQL.out _ h; omega
  ·have := hb3.size; omega
  ·intro k hk; have := HSQL.out k hk; have := hb3.size; omega
 have hmv : Mv6 w (P0of S g SQ) w3 (P6of S2 g st jb SQ) := by
  refine ⟨((Only.of_below HB1.out (AnyP (P0of S g SQ))).trans HS2.out.2.1 (fun i h => .inl (h.elim (fun h => ⟨0, h⟩) (fun h => ⟨1, h⟩)))).trans (T' := fun _ => False) (Only.of_below hb3 _) (fun _ h => h.elim), fun i k hk => ?_⟩
  match i, hk with
  | 0, hk => exact (hs2 k hk).imp (fun h => ⟨0, h⟩) (fun h => by omega)
  | 1, hk => exact .inl ⟨1, hk⟩
  | 2, hk => have hk : k = st := hk; exact .inr (by omega)
  | 3, hk => have hk : k = jb := hk; exact .inr (by omega)
  | 4, hk => exact .inl ⟨4, hk⟩
 have hrec : ∀ (j : Nat) c, cs[j]? = some c → RecAt w3 (P6of S2 g st jb SQ) A2 j c := fun j c hc => by
  obtain ⟨b, Aj, cj, e1, e2, ⟨e3, e4, e5⟩, e6, e7, e8, e9, e10, e11⟩ := HRR.out j c hc
  have hnot : ∀ k, k < w2.heap.size → w1.heap.size + 1 ≤ k → k ≠ g → ¬ S2 k → ∀ i, ¬ P6of S2 g st jb SQ i k := fun k q1 q2 q3 q4 i hi => by
   match i, hi with
   | 0, hi => exact q4 hi
   | 1, hi => exact q3 hi
   | 2, hi => have hi : k = st := hi; omega
   | 3, hi => have hi : k = jb := hi; omega
   | 4, hi => have := HSQL.out k hi; omega
  refine ⟨b, Aj, cj, e1, Nat.lt_of_lt_of_le e2 hb3.size, hnot b e2 e3 e4 e5, (hb3.cell (p := ⟨b, j, none⟩) e2).trans e6, e7, e8, e9, (e10.below hb3).more hb3.size, fun a ha h0 => ?_⟩
  obtain ⟨q1, q2, q3⟩ := e11 a ha h0
  obtain ⟨b', o', e, hb', _⟩ := e10 h0
  rw [ha] at e
  injection e with e
  exact hnot _ (by rw [e]; exact hb') q1 q2 q3
 have hpP : ∀ i, ¬ P6of S2 g st jb SQ i (st + 1) := fun i hi => by
  match i, hi with
  | 0, hi => have := HD2.out.lt _ hi; omega
  | 1, hi => have hi : st + 1 = g := hi; omega
  | 2, hi => have hi : st + 1 = st := hi; omega
  | 3, hi => have hi : st + 1 = jb := hi; omega
  | 4, hi => have := HSQL.out _ hi; omega
 have hg3 : st < w3.heap.size := by omega
 obtain ⟨P3, hP3⟩ : ∃ z, z = P6of S2 g st jb SQ := ⟨_, rfl⟩
 obtain ⟨R0, hR0⟩ : ∃ z, z = R0of gd g st jb sq (nmG gen) LO gen self X := ⟨_, rfl⟩
 rw [← hP3] at hsto hmv hrec hpP
 rw [← hR0] at hsto
 have HRX : Hid (R0.gd = gd ∧ R0.g = g ∧ R0.st = st ∧ R0.self = self ∧ R0.gen = gen ∧ R0.nm = nmG gen ∧ R0.LL = LO ∧ R0.jb = jb ∧ R0.ab = ⟨X, [], [], 0, 0⟩) := by rw [hR0]; exact ⟨rfl, rfl, rfl, rfl, rfl, rfl, rfl, rfl, rfl⟩
 have HSTO := Lib.hid hsto
 have HMV := Lib.hid hmv
 have HREC := Lib.hid hrec
 have HPP := Lib.hid (fun (W : World) (P' : Nat → Nat → Prop) (hm : Mv6 w3 P3 W P') => (hm.only.cell (p := ⟨st + 1, 0, none⟩) hpl (fun ⟨i, hi⟩ => hpP i hi)).trans hp3)
 have HPQ := Lib.hid hpP
 clear hst hw3 hst3 hp3 hb3 hj1 hs2 hsto hmv hrec hpP hP3 hR0 HRR HD2 HJ2 HSP
 go_upto_region 7 with fail
 go_loopw [44] (fun jv wx => ∃ j : Nat, j ≤ k2 ∧ jv = .int .i64 j ∧ Hid (∃ P' R', Sto wx P' R' (n + 1) ∧ SameS R0 R' ∧ repAll self gen R0.ab (cs.take j) = some R'.ab ∧ Mv6 w3 P3 wx P' ∧ ∀ (i : Nat) c, cs[i]? = some c → RecAt wx P' A2 i c)) (fun jv _ => k2 - (intOf jv).toNat)
 case atStart => exact ⟨0, Nat.zero_le _, rfl, P3, R0, HSTO.out, SameS.refl _, rfl, Mv6.refl _ _, HREC.out⟩
 case round =>
  obtain ⟨j, hj, rfl, HI⟩ := hrel
  obtain ⟨P', R', hs, hsame, hrep, hm, hrc⟩ := HI.out
  by_cases hjk : j < k2
  ·obtain ⟨c, hc⟩ : ∃ c, cs[j]? = some c := ⟨_, List.getElem?_eq_getElem (by rw [← HK2.out]; exact hjk)⟩
   obtain ⟨b, Aj, cj, rfl, hb, -, hcell, hcap, hnil, hok, hrd, -⟩ := hrc j c hc
   have hclen : c.length ≤ 20000 := HCL.out c (List.mem_of_getElem? hc)
   have cp := HPP.out wr P' hm
   have hself' : R'.self = self := hsame.self.trans HRX.out.2.2.2.1
   have hgen' : R'.gen = gen := hsame.gen.trans HRX.out.2.2.2.2.1
   have hst' : R'.st = st := hsame.st.trans HRX.out.2.2.1
   have hrp := replay_any Aj c.length cj c wr hs rfl hcap (by omega) hrd hok (fun k r e => ReOkA.of (HRE.out j k r R'.ab (by rw [hc, e]) (by rw [← HRX.out.2.2.2.2.2.2.2.2]; exact hrep)))
   rw [hst', hself', hgen'] at hrp
   have HRP := Lib.hid hrp
   have HC := Lib.hid hc
   have HI2 := Lib.hid (⟨hs, hsame, hrep, hm, hrc⟩ : _ ∧ _ ∧ _ ∧ _ ∧ _)
   obtain ⟨cl, hcl⟩ : ∃ z, z = c.length := ⟨_, rfl⟩
   rw [← hcl] at hcell HRP
   have HCLL := Lib.hid hcl
   clear hs hsame hrep hm hrc hc hcap hnil hok hrd hclen hself' hgen' hst' hrp HI hcl
   go_wp2_with fail
   refine HRP.out.mono ?_
   rintro _ w5 ⟨z, rfl, h5⟩
   by_cases hz : z = 0
   ·subst hz
    obtain ⟨P5, R5, hs5, hab5, hsame5, hm5⟩ : ∃ P5 R5, Sto w5 P5 R5 (n + 1) ∧ repA self gen R'.ab c = some R5.ab ∧ SameS R' R5 ∧ Mv6 wr P' w5 P5 := by
     rcases h5 with ⟨h, _⟩ | ⟨_, P5, R5, q1, q2, q3, q4⟩
     ·exact absurd rfl h
     ·exact ⟨P5, R5, q1, q2, q3, q4⟩
    have HI5 : Hid (∃ P' R', Sto w5 P' R' (n + 1) ∧ SameS R0 R' ∧ repAll self gen R0.ab (cs.take (j + 1)) = some R'.ab ∧ Mv6 w3 P3 w5 P' ∧ ∀ (i : Nat) c, cs[i]? = some c → RecAt w5 P' (some ⟨b, 0, none⟩) i c) := by
     refine ⟨P5, R5, hs5, HI2.out.2.1.trans hsame5, ?_, HI2.out.2.2.2.1.trans hm5, fun i c hc => (HI2.out.2.2.2.2 i c hc).mv hm5⟩
     rw [repAll_step HC.out, HI2.out.2.2.1]
     exact hab5
    clear hs5 hab5 hsame5 hm5 h5 HI2 HRP
    go_wp2
    go_roundw
    case rel => exact ⟨j + 1, by omega, by go_num, HI5.out⟩
    case measure => simp [intOf]; omega
   ·obtain ⟨hnone, herr, hon⟩ : repA self gen R'.ab c = none ∧ ErrOf c z ∧ Only (Own3 P') wr w5 := by
     rcases h5 with ⟨_, q1, q2, q3⟩ | ⟨h, _⟩
     ·exact ⟨q1, q2, q3⟩
     ·exact absurd h hz
    have d1 : ((z : Int) != 0) = true := by rw [bne_iff_ne]; omega
    have HBAD : Hid (BegBad w S gd g SQ n self gen ⟨X, [], [], 0, 0⟩ cs (.returned (.tuple #[.pointer none, .int .i64 z])) w5) := by
     have hrep' := HI2.out.2.2.1
     rw [HRX.out.2.2.2.2.2.2.2.2] at hrep'
     have hmw := HMV.out.trans HI2.out.2.2.2.1
     refine ⟨z, rfl, repAll_stop HC.out hrep' hnone, ⟨j, c, R'.ab, HC.out, hrep', herr⟩, hmw.only.trans hon (fun i hi => ?_), ?_⟩
     ·rcases hi with h | h | h
      ·exact hmw.new 2 i h
      ·exact hmw.new 4 i h
      ·exact hmw.new 5 i h
     ·obtain ⟨d, t, b', b1, b2, b3, b4⟩ := HI2.out.1.dt.tab
      have hg' : R'.g = g := HI2.out.2.1.g.trans HRX.out.2.1
      rw [hg'] at b4
      have hp1 := HI2.out.1.p1
      rw [hg'] at hp1
      refine ⟨d, t, b', b1, b2, b3, b4.only hon (fun h => ?_)⟩
      rcases h with h | h | h
      ·have := HI2.out.1.own.sep 2 1 _ h hp1; omega
      ·have := HI2.out.1.own.sep 4 1 _ h hp1; omega
      ·have := HI2.out.1.own.sep 5 1 _ h hp1; omega
    clear h5 hnone herr hon HI2 HRP
    go_wp2
    go_ret2
    exact .inl HBAD.out
  ·obtain rfl : j = k2 := by omega
   obtain ⟨a, ha⟩ : ∃ a, a = R'.ab := ⟨_, rfl⟩
   have hrepf : repAll self gen ⟨X, [], [], 0, 0⟩ cs = some a := by
    have h := hrep
    rw [HK2.out, List.take_length, HRX.out.2.2.2.2.2.2.2.2] at h
    rw [h, ha]
   have hgd' : R'.gd = gd := hsame.gd.trans HRX.out.1
   have hg' : R'.g = g := hsame.g.trans HRX.out.2.1
   have hst' : R'.st = st := hsame.st.trans HRX.out.2.2.1
   have hself' : R'.self = self := hsame.self.trans HRX.out.2.2.2.1
   have hgen' : R'.gen = gen := hsame.gen.trans HRX.out.2.2.2.2.1
   have hnm' : R'.nm = nmG gen := hsame.nm.trans HRX.out.2.2.2.2.2.1
   have hLL' : R'.LL = LO := hsame.LL.trans HRX.out.2.2.2.2.2.2.1
   have hjb' : R'.jb = jb := hsame.jb.trans HRX.out.2.2.2.2.2.2.2.1
   have HF := Lib.hid (⟨hgd', hg', hst', hself', hgen', hnm', hLL', hjb'⟩ : _ ∧ _ ∧ _ ∧ _ ∧ _ ∧ _ ∧ _ ∧ _)
   have HS' := Lib.hid hs
   have HM' := Lib.hid hm
   have HREP := Lib.hid hrepf
   have HA := Lib.hid ha
   have cp := HPP.out wr P' hm
   obtain ⟨os2, hG2, hk2⟩ := HT.out
   obtain ⟨wr9, sy9, z1, z2, z3⟩ := hs.dt.dk
   rw [hgd', hLL'] at z3
   have hmw := HMV.out.trans hm
   have hv9 : wr.cell? ⟨1, 0, none⟩ = some ev := (hmw.only.cell (p := ⟨1, 0, none⟩) HV.out.2.1 (fun ⟨i, hi⟩ => HV.out.2.2.1 i hi)).trans HV.out.1
   have hvl9 : 1 < wr.heap.size := Nat.lt_of_lt_of_le HV.out.2.1 hmw.only.size
   have HTD := Lib.hid (tidy_any (keep := nmG gen) wr z3 hG2 (by omega) hv9 hvl9 HV.out.2.2.2 hk2 HNO.out)
   have hjat := hs.j
   rw [hjb', hnm'] at hjat
   have HJN := Lib.hid (jname_any wr hjat)
   clear hs hsame hrep hm hrc hgd' hg' hst' hself' hgen' hnm' hLL' hjb' hrepf ha hG2 hk2 z1 z2 z3 hmw hv9 hvl9 hjat HI
   go_wp2_with fail
   refine HJN.out.mono ?_
   rintro _ _ ⟨rfl, rfl⟩
   go_wp2_with fail
   refine HTD.out.mono ?_
   rintro _ w6 ⟨rfl, hb6⟩
   have hs6 := HS'.out.below hb6
   have hm6 := HM'.out.trans (Mv6.of_below hb6 P')
   have hblk6 := hs6.blk
   rw [HF.out.2.2.1] at hblk6
   have cp := HPP.out w6 P' hm6
   have c6 : w6.cell? ⟨st, 6, none⟩ = some (.int .u64 R'.life) := cell_of_row _ _ 6 _ _ _ hblk6
   have f6 : w6.frozen? ⟨st, 6, none⟩ = false := frozen_of_row _ _ 6 _ _ hblk6
   obtain ⟨m', hm'⟩ : ∃ z, z = (R'.life + 1) % 18446744073709551616 := ⟨_, rfl⟩
   have hwl : IntKind.u64.wrap ((R'.life : Int) + 1) = (m' : Int) := by rw [IntKind.wrap_u64]; omega
   obtain ⟨hs7, hm7⟩ := hs6.set { R' with life := m' } 6 (.int .u64 m') rfl rfl rfl rfl rfl rfl rfl rfl rfl rfl rfl rfl
   obtain ⟨R7, hR7⟩ : ∃ z, z = ({ R' with life := m' } : Rc) := ⟨_, rfl⟩
   rw [← hR7] at hs7
   have hX7 : R7.gd = gd ∧ R7.g = g ∧ R7.st = st ∧ R7.self = self ∧ R7.gen = gen ∧ R7.nm = nmG gen ∧ R7.LL = LO ∧ R7.life = m' ∧ R7.ab = { a with m := (a.m + 1) % 18446744073709551616 } := by
    rw [hR7]
    refine ⟨HF.out.1, HF.out.2.1, HF.out.2.2.1, HF.out.2.2.2.1, HF.out.2.2.2.2.1, HF.out.2.2.2.2.2.1, HF.out.2.2.2.2.2.2.1, rfl, ?_⟩
    rw [HA.out, hm']
    rfl
   have hml : m' = (a.m + 1) % 18446744073709551616 := by rw [HA.out, hm']; rfl
   have HML := Lib.hid hml
   have HX7 := Lib.hid hX7
   clear hml hX7 hR7
   obtain ⟨w7, hw7⟩ : ∃ V, V = w6.setCell ⟨st, 6, none⟩ (.int .u64 m') := ⟨_, rfl⟩
   rw [HF.out.2.2.1, ← hw7] at hs7 hm7
   have HS7 := Lib.hid hs7
   have HM7 := Lib.hid (hm6.trans hm7)
   have hm64 : m' < 18446744073709551616 := by omega
   clear hs6 hm6 hblk6 hm' hs7 hm7 hb6 HS' HM' HTD HJN
   go_upto_region 15 with fail
   rw [← hw7]
   have cp := HPP.out w7 P' HM7.out
   clear hw7 c6 f6 hwl
   have h7 := HS7.out
   have hst7 : R7.st = st := HX7.out.2.2.1
   have hLLR : R7.LL = LO := HX7.out.2.2.2.2.2.2.1
   have hnmR : R7.nm = nmG gen := HX7.out.2.2.2.2.2.1
   have hlf : R7.life = m' := HX7.out.2.2.2.2.2.2.2.1
   have hlen3 : (leb m').length ≤ 10 := leb_le10 hm64
   have hpl7 : st + 1 < w7.heap.size := by have := HM7.out.only.size; omega
   have hw := write_any 3 64 ent64 ⟨st + 1, 0, none⟩ (leb m') w7 h7 (by omega) (by omega) (fun x hx => by
    rcases List.mem_cons.1 hx with rfl | hx
    ·decide
    ·exact leb_bytes hm64 x hx) (fun g' v' w1' hb' hg' hw' => by
    have h8 := h7.below hb'
    have h9 := fill_life R7 (by rw [hlf]; exact hm64) (st + 1) g' v' [3] w1' (by rw [hst7]; exact (hb'.cell (p := ⟨st + 1, 0, none⟩) hpl7).trans cp) h8.blk hw' (by simp)
    rw [hlf] at h9
    exact h9) (by rw [hnmR]; exact nmG_value _ hgen100) (by rw [hnmR]; exact nmG_max hgen100) (fun _ => by rw [hLLR]; exact hLOl) (by rw [hLLR, hnmR]; have := HHAD.out; omega)
   rw [hst7, hLLR, hnmR] at hw
   have HW := Lib.hid hw
   clear h7 hst7 hLLR hnmR hlen3 hw HS7 hlf hpl7
   go_wp2_with fail
   refine HW.out.mono ?_
   rintro _ w8 ⟨rfl, P8, hs8, hm8⟩
   have hm38 := HM7.out.trans hm8
   have cp := HPP.out w8 P8 hm38
   obtain ⟨R1, hR1⟩ : ∃ z, z = ({ R7 with LL := putP LO (nmG gen) ⟨(had LO (nmG gen)).by_ ++ laidR (3 :: leb m'), (had LO (nmG gen)).syn⟩ } : Rc) := ⟨_, rfl⟩
   have hs8 : Sto w8 P8 R1 (n + 1 + 1) := by
    rw [hR1]
    first | exact hs8 | (have h := HX7.out.2.2.1; have h2 := HX7.out.2.2.2.2.2.1; simpa only [h, h2] using hs8)
   have hX1 : R1.gd = gd ∧ R1.g = g ∧ R1.st = st ∧ R1.self = self ∧ R1.gen = gen ∧ R1.nm = nmG gen ∧ R1.LL = putP LO (nmG gen) ⟨(had LO (nmG gen)).by_ ++ laidR (3 :: leb ((a.m + 1) % 18446744073709551616)), (had LO (nmG gen)).syn⟩ := by
    rw [hR1]
    refine ⟨HX7.out.1, HX7.out.2.1, HX7.out.2.2.1, HX7.out.2.2.2.1, HX7.out.2.2.2.2.1, HX7.out.2.2.2.2.2.1, ?_⟩
    rw [← HML.out]
   have hab8 : R1.ab = { a with m := (a.m + 1) % 18446744073709551616 } := by
    rw [hR1]
    exact HX7.out.2.2.2.2.2.2.2.2
   have hsync := sto_sync9 hs8 (by omega) (HSY.out a R1 HREP.out hX1.2.2.2.1 hX1.2.2.2.2.1 hX1.2.2.2.2.2.1 hab8 hX1.2.2.2.2.2.2)
   rw [hX1.2.2.1] at hsync
   have HSYN := Lib.hid hsync
   have HX1 := Lib.hid hX1
   have HAB := Lib.hid hab8
   have HM8 := Lib.hid (HMV.out.trans hm38)
   have HM38 := Lib.hid hm38
   clear hs8 hm8 hm38 hab8 hR1 hX1 hsync HW
   go_wp2_with fail
   refine HSYN.out.mono ?_
   rintro _ w9 ⟨rfl, P9, R9, hs9, hm9, hpost⟩
   have hst9 : R9.st = st := by
    obtain ⟨f, -, h | h⟩ := hpost
    ·obtain ⟨-, LL', e, -⟩ := h
     rw [e]; exact HX1.out.2.2.1
    ·obtain ⟨-, jb', e⟩ := h
     rw [e]; exact HX1.out.2.2.1
   have cp := HPP.out w9 P9 (HM38.out.trans hm9)
   have HGOOD : Hid (BegGood w S gd g SQ n self gen ⟨X, [], [], 0, 0⟩ LL cs (.returned (.tuple #[.pointer (some ⟨st, 0, none⟩), .int .i64 0])) w9) := by
    refine ⟨a, R1, P9, R9, HREP.out, by rw [hst9], hs9, HM8.out.trans hm9, hpost, HX1.out.1, HX1.out.2.1, HX1.out.2.2.2.1, HX1.out.2.2.2.2.1, HX1.out.2.2.2.2.2.1, HAB.out, ?_⟩
    rw [← HLO.out]
    exact HX1.out.2.2.2.2.2.2
   clear hs9 hm9 hpost hst9 HSYN
   go_wp2
   go_ret2
   exact .inr HGOOD.out
end Go.Proofs.YtholdcgkhicdmaaGreatDoor