/- Several texts in one: StAg, StTz, StoreTurns. -/
import Derived.ChangeKeysEq
import Derived.Test.YtholdcgkhicdmaaGreatDoorZq48
namespace Go.Proofs.YtholdcgkhicdmaaGreatDoor
open Go.RowKit
theorem nextI_norm (s : Sm) (h : Nat) : normI (nextI s h) = nextI s h := by
 unfold nextI
 cases hg : s.g with
 | true =>
   have hg2 : (nextS s).g = true := hg
   rw [if_pos rfl, smallI_gap _ hg2]
   rfl
 | false =>
   have hg2 : (nextS s).g = false := hg
   rw [if_neg (by decide), smallI_ev _ hg2]
   rfl
theorem nextI_nm {s : Sm} (hs : OkS s) {h : Nat} (hh : h ≤ 1099511627776) : Nm (nextI s h) := by
 obtain ⟨h1, h2, h3⟩ := nextI_good hs hh
 exact ⟨nextI_ok hs hh, nextI_norm s h, h1, by omega⟩
theorem nextI_okB {s : Sm} (hs : OkS s) {h : Nat} (hh : h ≤ 1099511627776) : OkB (1 :: itemB (nextI s h)) := by
 obtain ⟨h1, h2, h3⟩ := nextI_good hs hh
 intro z hz
 rcases List.mem_cons.1 hz with rfl | hz
 ·decide
 ·exact itemB_ok9 (nextI_ok hs hh) h1 (by omega) z hz
def TA (w0 w : World) (gd g st q k : Nat) : Prop :=
 ∃ P R n kk b cs syn, Live w P R n 2 q kk b cs syn ∧ Lw w0 w P ∧ R.gd = gd ∧ R.g = g ∧ R.st = st ∧ R.life = 1 ∧ kk ≤ k ∧ n ≤ 18 + k ∧ b ≤ 19 + 309 * k
section
variable {w0 w w' : World} {gd g st q k : Nat}
theorem TA.below (h : TA w0 w gd g st q k) (hb' : Below w.heap.size w w') : TA w0 w' gd g st q k := by
 obtain ⟨P, R, n, kk, b, cs, syn, h1, h2, h3⟩ := h
 exact ⟨P, R, n, kk, b, cs, syn, h1.below hb', h2.below hb', h3⟩
theorem ta_first {S : Nat → Prop} {e : Ending} (h : OplPost w S gd g 0 2 q 0 0 (a0of q) e w') (hb : Below w0.heap.size w0 w) (hS : ∀ k, S k → w0.heap.size ≤ k) (hg : w0.heap.size ≤ g) :
  ∃ st, e = .returned (.tuple #[.pointer (some ⟨st, 0, none⟩), .int .i64 0]) ∧ TA w0 w' gd g st q 0 := by
 obtain ⟨P', R', cs', rfl, h1, h2, h3, h4, h5, h6, h7, h8, h9, h10⟩ := h
 refine ⟨R'.st, rfl, P', R', _, 0, _, cs', _, h1, ⟨fun i k hk => ?_, Only.after hb h3 (fun k hk => hk.elim (hS k) (fun e => by omega))⟩, h9, h10, rfl, h8, Nat.le_refl _, by omega, by omega⟩
 have := hb.size
 rcases h2 i k hk with h | h | h
 ·exact hS k h
 ·omega
 ·omega
theorem ta_spool (h : TA w0 w gd g st q k) :
  Calls Tryz.prog 17 #[.pointer (some ⟨st, 0, none⟩)] w fun e w' => ∃ sq S X L, e = .returned (.pointer (some ⟨sq, 0, none⟩)) ∧ SpAt w' S sq X L ∧ (∀ i, X.h i ≤ 1099511627776) ∧ Below w.heap.size w w' := by
 obtain ⟨P, R, n, kk, b, cs, syn, h1, h2, h3, h4, h5, h6, h7, h8, h9⟩ := h
 rw [← h5]
 refine (sto_spool w h1.st).mono ?_
 rintro _ w' ⟨sq, S, rfl, hs, -, hb'⟩
 exact ⟨sq, S, R.X, R.L, rfl, hs, fun i => h1.lv.lg.al.fc.ok.hs i, hb'⟩
theorem ta_put {w1 : World} {x : It} {A : Option Addr} {c : Nat} (h : TA w0 w gd g st q k) (hb1 : Below w.heap.size w w1) (hx : Nm x) (hl : (itemB x).length ≤ 300) (hok : OkB (1 :: itemB x)) (hk : k < 40) (hA : A = none → x.l.length = 0) (hr : RdP w1 w1.heap.size A x.l) (hnew : ∀ a, A = some a → w.heap.size ≤ a.block) :
  Calls Tryz.prog 11 #[.pointer (some ⟨st, 0, none⟩), .agg (itC x A c).toArray] w1 fun e w' => ∃ (x y : Nat) (z : Nat), e = .returned (.tuple #[.int .u64 x, .int .u64 y, .int .i64 z]) ∧ TA w0 w' gd g st q (k + 1) ∧ Only (fun k => w0.heap.size ≤ k) w1 w' ∧ (∀ k, w.heap.size ≤ k → k < w1.heap.size → w'.heap[k]? = w1.heap[k]?) := by
 obtain ⟨P, R, n, kk, b, cs, syn, h1, h2, h3, h4, h5, h6, h7, h8, h9⟩ := h
 have hap : ∀ a, A = some a → 0 < x.l.length → ∀ i, ¬ P i a.block := fun a ha _ i hi => by
  have := h1.st.own.lt i _ hi
  have := hnew a ha
  omega
 have hlt : ∀ i k, P i k → k < w.heap.size := fun i k hk => h1.st.own.lt i k hk
 have h1 := h1.below hb1
 have h2 := h2.below hb1
 rw [← h5]
 have hmod : Mod x := ⟨hx.1, hx.2.2.1, hx.2.2.2, by omega⟩
 refine (live_put x A c h1 (by omega) hmod hx hA ⟨hr, hap⟩ (by omega) hok (by omega) (by omega)).mono ?_
 rintro e w' (⟨e1, e2, e3⟩ | ⟨e1, e2, P', R', e3, e4, e5, e6, e7, e8, hgen⟩)
 ·exact ⟨0, 0, _, e2, ⟨P, R, n, kk, b, cs, syn, h1.below e3, h2.below e3, h3, h4, rfl, h6, by omega, by omega, by omega⟩, Only.of_below e3 _, fun k _ hk => e3.block k hk⟩
 ·refine ⟨_, _, 0, e2, ⟨P', R', n + 1, kk + 1, _, _, syn, e3, h2.mv e4, by rw [e6, h3], by rw [e7, h4], by rw [e8], ?_, by omega, by omega, by omega⟩, e4.only.mono (fun k ⟨i, hi⟩ => h2.lo i k hi), fun k hk1 hk2 => e4.only.block k hk2 (fun ⟨i, hi⟩ => by have := hlt i k hi; omega)⟩
  have : R'.ab.m = R.ab.m := by rw [e5]; rfl
  exact (show R'.life = R.life from this).trans h6
end
structure LA (w0 V w : World) (gd g q kk b lo hi m : Nat) (X : Sp) (K : List Ett) : Prop where
 at_ : ∃ S n gen cs a, DkT w S gd g [(nmG gen, ⟨joinR cs, (joinR cs).length⟩)] n ∧ n ≤ 100 + 18 * m ∧ Lv 2 q kk b gen cs a ∧ a.X = X ∧ a.K = K ∧ a.m = m ∧ (joinR cs).length ≤ 20000 ∧ (∀ k, S k → w0.heap.size ≤ k ∧ (k < lo ∨ hi ≤ k)) ∧ ¬ S g
 win : ∀ k, lo ≤ k → k < hi → w.heap[k]? = V.heap[k]?
 bl : Below w0.heap.size w0 w
 hi_ : hi ≤ w.heap.size
section
variable {w0 V w w' : World} {gd g q kk b lo hi m : Nat} {X : Sp} {K : List Ett}
theorem LA.below (h : LA w0 V w gd g q kk b lo hi m X K) (hb : Below w.heap.size w w') : LA w0 V w' gd g q kk b lo hi m X K := by
 obtain ⟨S, n, gen, cs, a, h1, h2⟩ := h.at_
 exact ⟨⟨S, n, gen, cs, a, h1.below hb, h2⟩, fun k h3 h4 => (hb.block k (Nat.lt_of_lt_of_le h4 h.hi_)).trans (h.win k h3 h4), h.bl.trans (hb.mono h.bl.size), Nat.le_trans h.hi_ hb.size⟩
theorem la_crash {t : Nat × Nat} {a : Nat} {W : World} (h : LA w0 V w gd g q kk b lo hi m X K) (hW : W = w.alloc (.cells #[.int .u16 t.1, .int .u16 t.2] 24)) (ha : a = w.heap.size) (ht : t.1 < 65536 ∧ t.2 < 65536) :
  Calls Tryz.prog 21 #[.pointer (some ⟨gd, 0, none⟩), .slice (some ⟨a, 0, none⟩) 1 1] W fun e w' => e = .returned (.tuple #[]) ∧ LA w0 V w' gd g q kk b lo hi m X K := by
 subst ha
 have hbA : Below w.heap.size w W := by rw [hW]; exact (Below.refl _ _).alloc (Nat.le_refl _) _
 have hxA : W.heap[w.heap.size]? = some (.cells #[.int .u16 t.1, .int .u16 t.2] 24 (0, 0)) := by rw [hW]; exact heap_alloc_new _ _
 have hzA : W.heap.size = w.heap.size + 1 := by rw [hW]; simp
 obtain ⟨S, n, gen, cs, a, h1, h2, h3, h4, h5, h6, h7, h8, h9⟩ := h.at_
 have hlt := h1.lt
 refine (crash_full (m := 1) (c := 1) (A := some ⟨w.heap.size, 0, none⟩) (ts := [t]) (h1.below hbA) h9 rfl (by decide) (fun _ => ⟨w.heap.size, 0, rfl, by omega, fun i u hu => by
  match i with
  | 0 =>
    have hu : t = u := by simpa using hu
    subst hu
    exact ⟨cell_of_row _ _ 0 _ _ _ hxA, cell_of_row _ _ 1 _ _ _ hxA⟩
  | i + 1 => simp at hu⟩) (fun a ha _ hs => by
  injection ha with ha
  rw [← ha] at hs
  have hs : S w.heap.size := hs
  have := hlt _ hs
  omega) (fun u hu => by
  rw [List.mem_singleton] at hu
  rw [hu]
  exact ht)).mono ?_
 rintro _ w' ⟨rfl, S', hd', hst'⟩
 have hk := (h.below hbA)
 refine ⟨rfl, ⟨S', n, gen, cs, a, hd', h2, h3, h4, h5, h6, h7, fun k hk => ?_, fun hk => ?_⟩, fun k h10 h11 => ?_, Only.after hk.bl hst'.only (fun k hk => (h8 k hk).1), Nat.le_trans hk.hi_ hst'.only.size⟩
 ·rcases hst'.new k hk with h10 | h10
  ·exact h8 k h10
  ·have := h.hi_
   have := h.bl.size
   exact ⟨by omega, .inr (by omega)⟩
 ·rcases hst'.new _ hk with h10 | h10
  ·exact h9 h10
  ·have := h1.glt
   omega
 ·rw [hst'.only.block k (Nat.lt_of_lt_of_le h11 (by have := h.hi_; omega)) (fun hs => by have := (h8 k hs).2; omega)]
  exact hk.win k h10 h11
theorem la_open {ev : Value} (h : LA w0 V w gd g q kk b lo hi m X K) (hg0 : Gl w0 ev) (hgw : w0.heap.size ≤ g) (hglo : g < lo) (hm : m ≤ 90) (hm1 : m + 1 < 18446744073709551616) (hb : b + 19 ≤ 13000) :
  Calls Tryz.prog 9 #[.pointer (some ⟨gd, 0, none⟩), .pointer (some ⟨g, 0, none⟩), .int .u8 (2 : Nat), .int .i64 q] w fun e w' => ∃ P R n cs, e = .returned (.tuple #[.pointer (some ⟨R.st, 0, none⟩), .int .i64 0]) ∧ Live w' P R n 2 q kk (b + 19) cs (joinR cs).length ∧ R.ab.X = X ∧ R.ab.K = K ∧ R.life = m + 1 ∧ LA w0 V w' gd g q kk (b + 19) lo hi (m + 1) X K := by
 obtain ⟨S, n, gen, cs, a, h1, h2, h3, h4, h5, h6, h7, h8, h9⟩ := h.at_
 have hG := hg0.below h.bl
 have hgl := hg0.l
 refine (live_open w h1 h3 h7 (by omega) hb (by omega) h9 hG.v hG.l (fun hs => by have := (h8 1 hs).1; omega) (by omega) hG.e).mono ?_
 rintro e w' ⟨P', R', cs', rfl, c1, c2, c3, c4, c5, c6, c7, c8, c9, c10⟩
 have hf : R'.first ≤ 16920 := c1.lv.fz
 have hq := c1.lv.q2
 have hdt := c1.st.dt
 rw [c1.LL, c9, c10] at hdt
 have hlv := c1.lv
 refine ⟨P', R', _, cs', rfl, c1, by rw [c5, h4], by rw [c6, h5], by rw [c8, h6], ⟨P' 0, _, R'.gen, cs', R'.ab, hdt, by omega, c1.lv, by rw [c5, h4], by rw [c6, h5], ?_, by omega, fun k hk => ?_, fun hk => ?_⟩, fun k h10 h11 => ?_, Only.after h.bl c3 (fun k hk => hk.elim (fun hs => (h8 k hs).1) (fun e => by omega)), Nat.le_trans h.hi_ c3.size⟩
 ·show R'.life = m + 1
  rw [c8, h6]
 ·have := h.hi_
  have := h.bl.size
  rcases c2 0 k hk with hs | hs | hs
  ·exact h8 k hs
  ·exact ⟨by omega, .inl (by omega)⟩
  ·exact ⟨by omega, .inr (by omega)⟩
 ·have := c1.st.own.sep 0 1 _ hk (by rw [← c10]; exact c1.st.p1)
  cases this
 ·rw [c3.block k (Nat.lt_of_lt_of_le h11 h.hi_) (fun hs => hs.elim (fun hs => by have := (h8 k hs).2; omega) (fun e => by omega))]
  exact h.win k h10 h11
end
section
variable {w0 w w' : World} {gd g st q k nb bb hb : Nat} {full : Bool}
end
end Go.Proofs.YtholdcgkhicdmaaGreatDoor
namespace Go.Proofs.YtholdcgkhicdmaaGreatDoor
open Go.RowKit
def hisC (h : Nat → Nat) : List Value := (List.range 32).map fun i => .int .u64 (h i)
theorem hisC_get {h : Nat → Nat} {j : Nat} {v : Value} (hj : (hisC h)[j]? = some v) : j < 32 ∧ v = .int .u64 (h j) := by
 have hl := (List.getElem?_eq_some_iff.1 hj).1
 have hl2 : j < 32 := by simpa [hisC] using hl
 refine ⟨hl2, ?_⟩
 unfold hisC at hj
 rw [List.getElem?_map, List.getElem?_range hl2] at hj
 exact (Option.some.inj hj).symm
theorem BsAt.his {w : World} {g : Nat} {X : Sp} {v : Value} (h : BsAt w g X v) : w.rangeAt g 3 (hisC X.h) := fun j u hj => by
 obtain ⟨h1, rfl⟩ := hisC_get hj
 exact h.cell.2.2.2.1 j h1
theorem eqItems_same {P : Program} {w : World} {d : Nat} {e : TypeId} {c : Nat} {xs : Array Value} (he : P.plainKey e = true) (hu : P.underlying e = some (.int .u64)) : ∀ l : List Nat, (∀ i ∈ l, ∃ z, xs[i * c]? = some (.int .u64 z)) → (Op.eqItems (d + 1) e c xs xs l).run P w = .ok true w
 | [], _ => by simp [Op.eqItems]
 | i :: l, h => by
   obtain ⟨z, hz⟩ := h i List.mem_cons_self
   have p1 := run_part_plain w he hz
   have p2 := run_equalIn_int (P := P) (w := w) d e .u64 .u64 z z hu
   have ih := eqItems_same (P := P) (w := w) (d := d) (c := c) he hu l fun j hj => h j (List.mem_cons_of_mem _ hj)
   simp only [Op.eqItems, Sem.run_bind, p1, p2, Result.andThen_ok]
   simpa using ih
theorem Tryz.info32 : (Tryz.prog.info? 60).map (·.size) = some 32 := by kernel_rfl
theorem hisC_info (h : Nat → Nat) : (Tryz.prog.info? 60).map (·.size) = some (hisC h).length := by
 rw [Tryz.info32]
 simp [hisC]
namespace storeTurns
end storeTurns
end Go.Proofs.YtholdcgkhicdmaaGreatDoor