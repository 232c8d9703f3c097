/- Layer 13: words as a condition: what they tell; the program's own. -/
import Derived.Test.YthggaedpbmjclaaDoorCdChk
import Derived.Test.YthggaedpbmjclaaDoorCdText
import Derived.Test.YthggaedpbmjclaaDoorCdSign
import Derived.Test.YthggaedpbmjclaaDoorCdSmall
namespace Go.Proofs.YthggaedpbmjclaaDoor
open Go.RowKit Go.Proofs

/-- The slice at A reads as these words; it lies below block B. -/
def RdW (w : World) (B : Nat) (A : Option Addr) (l : List ByteArray) : Prop :=
  0 < l.length → ∃ b o, A = some ⟨b, o, none⟩ ∧ b < B ∧ ∀ (i : Nat) (s : ByteArray), l[i]? = some s → w.cell? ⟨b, o + i, none⟩ = some (.string s)
theorem RdW.below {w w' : World} {B : Nat} {A : Option Addr} {l : List ByteArray} (h : RdW w B A l) (hb : Below B w w') : RdW w' B A l := fun h0 => by
  obtain ⟨b, o, e, hbb, hc⟩ := h h0
  exact ⟨b, o, e, hbb, fun i s hs => (hb.cell (p := ⟨b, o + i, none⟩) hbb).trans (hc i s hs)⟩
theorem RdW.more {w : World} {B B' : Nat} {A : Option Addr} {l : List ByteArray} (h : RdW w B A l) (hB : B ≤ B') : RdW w B' A l := fun h0 => by
  obtain ⟨b, o, e, hbb, hc⟩ := h h0
  exact ⟨b, o, e, by omega, hc⟩
abbrev PoR := Nat × Int × Nat × Int
def parsZ (k : Nat) (l : List ByteArray) : Option Int := if limK k then signF (l.getD 1 ⟨#[]⟩).data.toList else some 0
def parsT (k : Nat) (l : List ByteArray) : Option Nat := if tkK k then numN (l.getD (wordsK k - 1) ⟨#[]⟩).data.toList 1048576 else some 0
def parsC (k : Nat) (z : Int) (t : Nat) : PoR := if checkC k z t = 0 then (k, z, t, 0) else (0, 0, 0, checkC k z t)
def parsN (k : Nat) (z : Option Int) (t : Option Nat) : PoR := match z, t with
  | some z, some t => parsC k z t
  | _, _ => (0, 0, 0, 27)
/-- what words tell -/
def parsF (l : List ByteArray) : PoR :=
  if kindN (l.headD ⟨#[]⟩) = 0 ∨ l.length ≠ wordsK (kindN (l.headD ⟨#[]⟩)) then (0, 0, 0, 2) else parsN (kindN (l.headD ⟨#[]⟩)) (parsZ (kindN (l.headD ⟨#[]⟩)) l) (parsT (kindN (l.headD ⟨#[]⟩)) l)
def poV (ik : IntKind) (o : PoR) : Value := .tuple #[.agg #[.int ik o.1, .int .i64 o.2.1, .int .u64 o.2.2.1], .int .i64 o.2.2.2]
theorem parsF_nil : parsF [] = (0, 0, 0, 2) := if_pos (.inl (by decide +kernel))
theorem parsF_kind {s : ByteArray} {r : List ByteArray} (h : kindN s = 0) : parsF (s :: r) = (0, 0, 0, 2) := if_pos (.inl h)
theorem parsF_many {s : ByteArray} {r : List ByteArray} {k : Nat} (h : kindN s = k) (hn : r.length + 1 ≠ wordsK k) : parsF (s :: r) = (0, 0, 0, 2) := if_pos (.inr (by rw [← h] at hn; exact hn))
theorem parsF_go {s : ByteArray} {r : List ByteArray} {k : Nat} (h : kindN s = k) (h0 : k ≠ 0) (hn : r.length + 1 = wordsK k) : parsF (s :: r) = parsN k (parsZ k (s :: r)) (parsT k (s :: r)) := by
  unfold parsF
  rw [show (s :: r).headD ⟨#[]⟩ = s from rfl, h]
  exact if_neg (by rintro (h1 | h1); exact h0 h1; exact h1 hn)
theorem parsF_1 {s y : ByteArray} {k : Nat} (h : kindN s = k) (hk : k = 1 ∨ k = 2) : parsF [s, y] = parsN k (signF y.data.toList) (some 0) := by
  rw [parsF_go h (by omega) (by rcases hk with rfl | rfl <;> rfl)]
  rcases hk with rfl | rfl <;> rfl
theorem parsF_2 {s y : ByteArray} {k : Nat} (h : kindN s = k) (hk : k = 3) : parsF [s, y] = parsN k (some 0) (numN y.data.toList 1048576) := by
  rw [parsF_go h (by omega) (by rcases hk with rfl; rfl)]
  rcases hk with rfl; rfl
theorem parsF_3 {s y u : ByteArray} {k : Nat} (h : kindN s = k) (hk : k = 4 ∨ k = 5) : parsF [s, y, u] = parsN k (signF y.data.toList) (numN u.data.toList 1048576) := by
  rw [parsF_go h (by omega) (by rcases hk with rfl | rfl <;> rfl)]
  rcases hk with rfl | rfl <;> rfl
theorem signF_bounds {l : List UInt8} {z : Int} (h : signF l = some z) : -9223372036854775808 ≤ z ∧ z < 9223372036854775808 := by
  unfold signF at h
  split at h
  · split at h
    · rename_i n hn
      have := numN_le hn
      split at h
      · cases h
      · injection h with h; omega
    · cases h
  · split at h
    · rename_i n hn
      have := numN_le hn
      injection h with h; omega
    · cases h
def zC8 : Array Value := #[.int .u8 0, .int .i64 0, .int .u64 0]
/-- where Parse stands: what is returned (at g), the condition (at b) -/
structure ParSt (w : World) (g b : Nat) (k : Nat) (z : Int) (t : Nat) (W : World) : Prop where
  c : W.heap[b]? = some (.cells #[.int .u8 k, .int .i64 z, .int .u64 t] 26 (0, 0))
  r : W.heap[g]? = some (.cells #[.int .u8 0, .int .i64 0, .int .u64 0] 26 (0, 0))
  below : Below w.heap.size w W
  ne : g ≠ b
  hb : w.heap.size ≤ b
  hg : w.heap.size ≤ g
theorem ParSt.later {w : World} {g b k : Nat} {z : Int} {t : Nat} {W W' : World} (h : ParSt w g b k z t W) (hb : Below W.heap.size W W') : ParSt w g b k z t W' :=
  ⟨(hb.block _ (Array.getElem?_eq_some_iff.1 h.c).1).trans h.c, (hb.block _ (Array.getElem?_eq_some_iff.1 h.r).1).trans h.r, h.below.trans (hb.mono h.below.size), h.ne, h.hb, h.hg⟩
theorem ParSt.set1 {w : World} {g b k : Nat} {z : Int} {t : Nat} {W : World} (h : ParSt w g b k z t W) (z' : Int) : ParSt w g b k z' t (W.setCell ⟨b, 1, none⟩ (.int .i64 z')) :=
  ⟨heap_setCell_same _ _ _ _ _ _ h.c, ((Only13.setCell W b 1 _).block g (Array.getElem?_eq_some_iff.1 h.r).1 h.ne).trans h.r, (Only13.setCell W b 1 _).below h.below h.below.size h.hb, h.ne, h.hb, h.hg⟩
theorem ParSt.set2 {w : World} {g b k : Nat} {z : Int} {t : Nat} {W : World} (h : ParSt w g b k z t W) (t' : Nat) : ParSt w g b k z t' (W.setCell ⟨b, 2, none⟩ (.int .u64 t')) :=
  ⟨heap_setCell_same _ _ _ _ _ _ h.c, ((Only13.setCell W b 2 _).block g (Array.getElem?_eq_some_iff.1 h.r).1 h.ne).trans h.r, (Only13.setCell W b 2 _).below h.below h.below.size h.hb, h.ne, h.hb, h.hg⟩
theorem ParSt.cells {w : World} {g b k : Nat} {z : Int} {t : Nat} {W : World} (h : ParSt w g b k z t W) : W.cell? ⟨b, 1, none⟩ = some (.int .i64 z) ∧ W.cell? ⟨b, 2, none⟩ = some (.int .u64 t) ∧ W.frozen? ⟨b, 1, none⟩ = false ∧ W.frozen? ⟨b, 2, none⟩ = false :=
  ⟨cell_of_row _ _ 1 _ _ _ h.c, cell_of_row _ _ 2 _ _ _ h.c, frozen_of_row _ _ _ _ _ h.c, frozen_of_row _ _ _ _ _ h.c⟩
theorem ParSt.fin {w : World} {g b k : Nat} {z : Int} {t : Nat} {W : World} (h : ParSt w g b k z t W) (cs : Array Value) : Below w.heap.size w (W.setRow g cs) := below_setRow h.below h.hg _
set_option maxRecDepth 100000 in
set_option maxHeartbeats 4000000 in
theorem cparse_any (A : Option Addr) (n c : Nat) (l : List ByteArray) (w : World) (hn : n = l.length) (hc : n ≤ c) (hl : ∀ x ∈ l, x.size ≤ 9223372036854775807) (hr : RdW w w.heap.size A l) (ht : GlT w) :
    Calls Tryd.prog 6 #[.slice A n c] w fun e w' => e = .returned (poV .u8 (parsF l)) ∧ Below w.heap.size w w' := by
  obtain ⟨w1, hw1, hc1, hb1⟩ : ∃ w1 : World, w1 = w.alloc (.cells #[.int .u8 0, .int .i64 0, .int .u64 0] 26) ∧ w1.heap[w.heap.size]? = some (.cells #[.int .u8 0, .int .i64 0, .int .u64 0] 26 (0, 0)) ∧ Below w.heap.size w w1 := ⟨_, rfl, heap_alloc_new _ _, (Below.refl _ _).alloc (Nat.le_refl _) _⟩
  obtain ⟨g, hg⟩ : ∃ g, g = w.heap.size := ⟨_, rfl⟩
  rw [← hg] at hc1
  obtain ⟨O, hO⟩ : ∃ O, O = parsF l := ⟨_, rfl⟩
  rw [← hO]
  have HW1 := Lib.hid hw1
  have HG := Lib.hid hg
  have HC1 := Lib.hid hc1
  have HB1 := Lib.hid hb1
  cases l with
  | nil =>
    obtain rfl : n = 0 := hn
    have E : Hid (O = (0, 0, 0, 2)) := by show O = _; rw [hO, parsF_nil]
    clear hw1 hg hc1 hb1 hO hc hl hr ht
    go_enter Tryd.func6, Tryd.ntmps6
    go_upto_region 1 with fail
    rw [← HW1.out, ← HG.out]
    go_wp2_with (first | (refine wpList_store_row rfl _ _ _ rfl g #[.int .u8 0, .int .i64 0, .int .u64 0] rfl rfl _ _ HC1.out Tryd.infoCc rfl (by simp [Value.oneCell']) ?_) | fail)
    refine bodyPost_ret (v := .tuple #[.agg #[.int .u8 0, .int .i64 0, .int .u64 0], .int .i64 2]) ?_ rfl ⟨by rw [E.out]; rfl, below_setRow HB1.out (by rw [HG.out]; exact Nat.le_refl _) _⟩
    exact results_pt rfl _ _ g _ _ _ _ rfl rfl (setRow_heap _ _ _ _ _ _ HC1.out) Tryd.underlying26 rfl (by kernel_rfl)
  | cons s r =>
    obtain ⟨b, q, rfl, hbb, hcl⟩ := hr (by simp)
    have n1 : 1 ≤ n := by rw [hn]; simp
    have n1' : (1 : Int) ≤ (n : Int) := by omega
    have n0 : ((n : Int) == 0) = false := by rw [beq_eq_false_iff_ne]; omega
    have n0' : ¬ (n : Int) = 0 := by omega
    have n0'' : n ≠ 0 := by omega
    have n0l : 0 < n := by omega
    have HCL : Hid (∀ W, Below w.heap.size w W → ∀ i x, (s :: r)[i]? = some x → W.cell? ⟨b, q + i, none⟩ = some (.string x)) := fun W hW i x hx => (hW.cell (p := ⟨b, q + i, none⟩) hbb).trans (hcl i x hx)
    have HGT : Hid (∀ W, Below w.heap.size w W → GlT W) := fun W hW => ht.below hW
    have a0 : w1.cell? ⟨b, q, none⟩ = some (.string s) := HCL.out w1 HB1.out 0 s rfl
    have HK := Lib.hid (fun W hW => ckind_any s W hW)
    obtain ⟨k, hk⟩ : ∃ k, k = kindN s := ⟨_, rfl⟩
    rw [← hk] at HK
    have hk5 : k ≤ 5 := by rw [hk]; exact kindN_le s
    have HGT1 := Lib.hid (HGT.out w1 HB1.out)
    by_cases k0 : k = 0
    · have E : Hid (O = (0, 0, 0, 2)) := by show O = _; rw [hO, parsF_kind (by rw [← hk]; exact k0)]
      have d0 : decide (k ≠ 0) = false := decide_eq_false (by omega)
      rw [d0] at HK
      clear hw1 hg hc1 hb1 hO hn hc hl hr ht hk hcl
      go_enter Tryd.func6, Tryd.ntmps6
      go_upto_region 1 with fail
      rw [← HW1.out, ← HG.out]
      go_wp2_with fail
      refine (HK.out w1 HGT1.out).mono ?_
      rintro _ w2 ⟨rfl, rfl⟩
      go_wp2_with (first | (refine wpList_store_row rfl _ _ _ rfl g #[.int .u8 0, .int .i64 0, .int .u64 0] rfl rfl _ _ HC1.out Tryd.infoCc rfl (by simp [Value.oneCell']) ?_) | fail)
      refine bodyPost_ret (v := .tuple #[.agg #[.int .u8 0, .int .i64 0, .int .u64 0], .int .i64 2]) ?_ rfl ⟨by rw [E.out]; rfl, below_setRow HB1.out (by rw [HG.out]; exact Nat.le_refl _) _⟩
      exact results_pt rfl _ _ g _ _ _ _ rfl rfl (setRow_heap _ _ _ _ _ _ HC1.out) Tryd.underlying26 rfl (by kernel_rfl)
    · have d0 : decide (k ≠ 0) = true := decide_eq_true (by omega)
      rw [d0] at HK
      have HWD := Lib.hid (fun W => cwords_any (nameK k) (limK k) (tkK k) W)
      have hwk : 1 + (if limK k then 1 else 0) + (if tkK k then 1 else 0) = wordsK k := by
        have : k = 1 ∨ k = 2 ∨ k = 3 ∨ k = 4 ∨ k = 5 := by omega
        rcases this with rfl | rfl | rfl | rfl | rfl <;> rfl
      obtain ⟨m, hm⟩ : ∃ m, m = wordsK k := ⟨_, rfl⟩
      rw [hwk, ← hm] at HWD
      have hg1 : g < w1.heap.size := (Array.getElem?_eq_some_iff.1 hc1).1
      have HCX : Hid (∀ W, Below w1.heap.size w1 W → W.heap[g]? = some (.cells #[.int .u8 0, .int .i64 0, .int .u64 0] 26 (0, 0))) := fun W hW => (hW.block _ hg1).trans HC1.out
      have HSP : Hid (w1.rangeAt 0 (k * 3) [.string (nameK k), .bool (limK k), .bool (tkK k)]) := (HGT.out w1 HB1.out).sp k (by omega)
      have p0 : w1.cell? ⟨0, k * 3, none⟩ = some (.string (nameK k)) := HSP.out 0 _ rfl
      have p1 : w1.cell? ⟨0, k * 3 + 1, none⟩ = some (.bool (limK k)) := HSP.out 1 _ rfl
      have p2 : w1.cell? ⟨0, k * 3 + 2, none⟩ = some (.bool (tkK k)) := HSP.out 2 _ rfl
      have k6 : k < 6 := by omega
      have k6' : (k : Int) < 6 := by omega
      by_cases hwn : n = m
      · have d1 : ((n : Int) == (m : Int)) = true := by rw [beq_iff_eq]; omega
        have d1' : (n : Int) = (m : Int) := by omega
        have hrl : r.length + 1 = m := by rw [← hwn, hn]; simp
        have h3 : (k = 1 ∨ k = 2) ∨ k = 3 ∨ (k = 4 ∨ k = 5) := by omega
        rcases h3 with h3 | h3 | h3
        · have hm2 : m = 2 := by rw [hm]; rcases h3 with rfl | rfl <;> rfl
          obtain ⟨y, rfl⟩ : ∃ y, r = [y] := by
            match r, hrl with
            | [y], _ => exact ⟨y, rfl⟩
            | [], h => simp at h; omega
            | _ :: _ :: _, h => simp at h; omega
          have hlk : limK k = true := by rcases h3 with rfl | rfl <;> rfl
          have htk : tkK k = false := by rcases h3 with rfl | rfl <;> rfl
          have hk6 := k6
          have HF : Hid (∀ W, Below w.heap.size w W → W.cell? ⟨0, k * 3 + 1, none⟩ = some (.bool true) ∧ W.cell? ⟨0, k * 3 + 2, none⟩ = some (.bool false) ∧ W.cell? ⟨b, q + 1, none⟩ = some (.string y)) := fun W hW => ⟨by have := ((HGT.out W hW).sp k hk6) 1 _ rfl; rw [← hlk]; exact this, by have := ((HGT.out W hW).sp k hk6) 2 _ rfl; rw [← htk]; exact this, HCL.out W hW 1 _ rfl⟩
          have HG1 := Lib.hid hg1
          clear hk6
          rw [hlk] at p1 HWD HSP
          rw [htk] at p2 HWD HSP
          have hn1 : 1 < n := by omega
          have E : Hid (O = parsN k (signF y.data.toList) (some 0)) := by show O = _; rw [hO, parsF_1 hk.symm h3]
          have HSG := Lib.hid (fun W hW => csign_any y W (hl y (by simp)) hW)
          clear hw1 hg hc1 hb1 hO hn hl hr ht hk hcl hg1 hm hwk hwn hrl hm2 h3
          go_enter Tryd.func6, Tryd.ntmps6
          go_upto_region 1 with fail
          rw [← HW1.out, ← HG.out]
          go_wp2_with fail
          refine (HK.out w1 HGT1.out).mono ?_
          rintro _ w2 ⟨rfl, rfl⟩
          go_wp2_with fail
          refine (HWD.out w1).mono ?_
          rintro _ w2 ⟨rfl, hb2⟩
          obtain ⟨w3, hw3, hc3, hb3, hs3⟩ := boxP2 w2 26 #[.int .u8 0, .int .i64 0, .int .u64 0] #[.int .u8 k, .int .i64 0, .int .u64 0]
          obtain ⟨bc, hbc⟩ : ∃ b, b = w2.heap.size := ⟨_, rfl⟩
          rw [← hbc] at hc3
          have ST3 := Lib.hid (⟨hc3, (hb3.block _ (by have := hb2.size; have := HG1.out; omega)).trans (HCX.out w2 hb2), (HB1.out.trans (hb2.mono HB1.out.size)).trans (hb3.mono (HB1.out.trans (hb2.mono HB1.out.size)).size), (by have := hb2.size; have := HG1.out; omega), (by rw [hbc]; exact (HB1.out.trans (hb2.mono HB1.out.size)).size), (by rw [HG.out]; exact Nat.le_refl _)⟩ : ParSt w g bc k 0 0 w3)
          have HW3 := Lib.hid hw3
          have HBC := Lib.hid hbc
          clear hb2 p0 p1 p2 a0 hw3 hc3 hb3 hs3 hbc
          go_upto_region 7 with (first
            | (refine wpList_store_row rfl _ _ _ rfl w2.heap.size #[.int .u8 k, .int .i64 0, .int .u64 0] rfl rfl _ _ (heap_alloc_new _ _) Tryd.infoCc rfl (by simp [Value.oneCell']) ?_)
            | fail)
          first | rw [← HW3.out, act_put_pt] | rw [← HW3.out]
          rw [← HBC.out]
          clear HW3 HBC
          obtain ⟨p1, p2, a1⟩ := HF.out w3 ST3.out.below
          obtain ⟨y1, y2, z1, z2⟩ := ST3.out.cells
          have HGT3 := Lib.hid (HGT.out w3 ST3.out.below)
          go_wp2_with fail
          refine (HSG.out w3 HGT3.out.gc).mono ?_
          rintro _ w4 ⟨rfl, hb4⟩
          have ST4 := Lib.hid (ST3.out.later hb4)
          clear hb4 p1 p2 a1 y1 y2 z1 z2 ST3 HSG
          obtain ⟨y1, y2, z1, z2⟩ := ST4.out.cells
          cases hz : signF y.data.toList with
          | none =>
            rw [hz] at E
            have ST5 := Lib.hid (ST4.out.set1 0)
            unfold signV
            go_wp2_with (first | (refine wpList_store_row rfl _ _ _ rfl g #[.int .u8 0, .int .i64 0, .int .u64 0] rfl rfl _ _ ST5.out.r Tryd.infoCc rfl (by simp [Value.oneCell']) ?_) | fail)
            refine bodyPost_ret (v := .tuple #[.agg #[.int .u8 0, .int .i64 0, .int .u64 0], .int .i64 27]) ?_ rfl ⟨by rw [E.out]; rfl, ST5.out.fin _⟩
            exact results_pt rfl _ _ g _ _ _ _ rfl rfl (setRow_heap _ _ _ _ _ _ ST5.out.r) Tryd.underlying26 rfl (by kernel_rfl)
          | some z =>
            rw [hz] at E
            have ST5 := Lib.hid (ST4.out.set1 z)
            unfold signV
            go_upto_region 10 with fail
            obtain ⟨w5, hw5⟩ : ∃ V, V = w4.setCell ⟨bc, 1, none⟩ (.int .i64 z) := ⟨_, rfl⟩
            rw [← hw5] at ST5 ⊢
            clear hw5 ST4 y1 y2 z1 z2
            obtain ⟨p1, p2, a1⟩ := HF.out w5 ST5.out.below
            obtain ⟨C, hC⟩ : ∃ C, C = checkC k z (0 : Nat) := ⟨_, rfl⟩
            have HCK : Hid (∀ W, Calls Tryd.prog 9 #[.agg #[.int .u8 k, .int .i64 z, .int .u64 (0 : Nat)]] W fun e w' => e = .returned (.int .i64 C) ∧ Below W.heap.size W w') := by rw [hC]; exact fun W => ccheck_any k z (0 : Nat) W
            have EC : Hid (O = if C = 0 then (k, z, (0 : Nat), 0) else (0, 0, 0, C)) := by rw [hC]; exact E.out
            clear hC
            go_wp2_with (first | (refine wpList_load_row rfl _ _ rfl bc rfl _ _ _ _ ST5.out.c Tryd.underlying26 rfl (by kernel_rfl) ?_) | fail)
            all_goals
              refine (HCK.out _).mono ?_
              rintro _ w8 ⟨rfl, hb8⟩
              have ST8 := Lib.hid (ST5.out.later hb8)
              clear hb8 HCK
              by_cases hz : C = 0
              · subst hz
                have EE : Hid (O = (k, z, (0 : Nat), 0)) := EC.out
                go_wp2_with (first | (refine wpList_load_row rfl _ _ rfl bc rfl _ _ _ _ ST8.out.c Tryd.underlying26 rfl (by kernel_rfl) ?_) | (refine wpList_store_row rfl _ _ _ rfl g #[.int .u8 k, .int .i64 z, .int .u64 (0 : Nat)] rfl rfl _ _ ST8.out.r Tryd.infoCc rfl (by simp [Value.oneCell']) ?_) | fail)
                refine bodyPost_ret (v := .tuple #[.agg #[.int .u8 k, .int .i64 z, .int .u64 (0 : Nat)], .int .i64 0]) ?_ rfl ⟨by rw [EE.out]; rfl, ST8.out.fin _⟩
                exact results_pt rfl _ _ g _ _ _ _ rfl rfl (setRow_heap _ _ _ _ _ _ ST8.out.r) Tryd.underlying26 rfl (by kernel_rfl)
              · have EE : Hid (O = (0, 0, 0, C)) := by rw [EC.out]; exact if_neg hz
                have q1 : (C == 0) = false := by rw [beq_eq_false_iff_ne]; exact hz
                go_wp2_with (first | (refine wpList_store_row rfl _ _ _ rfl g #[.int .u8 0, .int .i64 0, .int .u64 0] rfl rfl _ _ ST8.out.r Tryd.infoCc rfl (by simp [Value.oneCell']) ?_) | fail)
                refine bodyPost_ret (v := .tuple #[.agg #[.int .u8 0, .int .i64 0, .int .u64 0], .int .i64 C]) ?_ rfl ⟨by rw [EE.out]; rfl, ST8.out.fin _⟩
                exact results_pt rfl _ _ g _ _ _ _ rfl rfl (setRow_heap _ _ _ _ _ _ ST8.out.r) Tryd.underlying26 rfl (by kernel_rfl)
        · have hm2 : m = 2 := by rw [hm]; rcases h3 with rfl; rfl
          obtain ⟨y, rfl⟩ : ∃ y, r = [y] := by
            match r, hrl with
            | [y], _ => exact ⟨y, rfl⟩
            | [], h => simp at h; omega
            | _ :: _ :: _, h => simp at h; omega
          have hlk : limK k = false := by rcases h3 with rfl; rfl
          have htk : tkK k = true := by rcases h3 with rfl; rfl
          have hk6 := k6
          have HF : Hid (∀ W, Below w.heap.size w W → W.cell? ⟨0, k * 3 + 1, none⟩ = some (.bool false) ∧ W.cell? ⟨0, k * 3 + 2, none⟩ = some (.bool true) ∧ W.cell? ⟨b, q + 1, none⟩ = some (.string y)) := fun W hW => ⟨by have := ((HGT.out W hW).sp k hk6) 1 _ rfl; rw [← hlk]; exact this, by have := ((HGT.out W hW).sp k hk6) 2 _ rfl; rw [← htk]; exact this, HCL.out W hW 1 _ rfl⟩
          have HG1 := Lib.hid hg1
          clear hk6
          rw [hlk] at p1 HWD HSP
          rw [htk] at p2 HWD HSP
          have hn1 : 1 < n := by omega
          have E : Hid (O = parsN k (some 0) (numN y.data.toList 1048576)) := by show O = _; rw [hO, parsF_2 hk.symm h3]
          have HNG := Lib.hid (fun W hW => cnum_any y 1048576 W (hl y (by simp)) hW)
          clear hw1 hg hc1 hb1 hO hn hl hr ht hk hcl hg1 hm hwk hwn hrl hm2 h3
          go_enter Tryd.func6, Tryd.ntmps6
          go_upto_region 1 with fail
          rw [← HW1.out, ← HG.out]
          go_wp2_with fail
          refine (HK.out w1 HGT1.out).mono ?_
          rintro _ w2 ⟨rfl, rfl⟩
          go_wp2_with fail
          refine (HWD.out w1).mono ?_
          rintro _ w2 ⟨rfl, hb2⟩
          obtain ⟨w3, hw3, hc3, hb3, hs3⟩ := boxP2 w2 26 #[.int .u8 0, .int .i64 0, .int .u64 0] #[.int .u8 k, .int .i64 0, .int .u64 0]
          obtain ⟨bc, hbc⟩ : ∃ b, b = w2.heap.size := ⟨_, rfl⟩
          rw [← hbc] at hc3
          have ST3 := Lib.hid (⟨hc3, (hb3.block _ (by have := hb2.size; have := HG1.out; omega)).trans (HCX.out w2 hb2), (HB1.out.trans (hb2.mono HB1.out.size)).trans (hb3.mono (HB1.out.trans (hb2.mono HB1.out.size)).size), (by have := hb2.size; have := HG1.out; omega), (by rw [hbc]; exact (HB1.out.trans (hb2.mono HB1.out.size)).size), (by rw [HG.out]; exact Nat.le_refl _)⟩ : ParSt w g bc k 0 0 w3)
          have HW3 := Lib.hid hw3
          have HBC := Lib.hid hbc
          clear hb2 p0 p1 p2 a0 hw3 hc3 hb3 hs3 hbc
          go_upto_region 7 with (first
            | (refine wpList_store_row rfl _ _ _ rfl w2.heap.size #[.int .u8 k, .int .i64 0, .int .u64 0] rfl rfl _ _ (heap_alloc_new _ _) Tryd.infoCc rfl (by simp [Value.oneCell']) ?_)
            | fail)
          first | rw [← HW3.out, act_put_pt] | rw [← HW3.out]
          rw [← HBC.out]
          clear HW3 HBC
          obtain ⟨p1, p2, a1⟩ := HF.out w3 ST3.out.below
          obtain ⟨y1, y2, z1, z2⟩ := ST3.out.cells
          have HGT3 := Lib.hid (HGT.out w3 ST3.out.below)
          go_wp2_with fail
          refine (HNG.out w3 HGT3.out.gc).mono ?_
          rintro _ w4 ⟨rfl, hb4⟩
          have ST4 := Lib.hid (ST3.out.later hb4)
          clear hb4 p1 p2 a1 y1 y2 z1 z2 ST3 HNG
          obtain ⟨y1, y2, z1, z2⟩ := ST4.out.cells
          cases hz : numN y.data.toList 1048576 with
          | none =>
            rw [hz] at E
            have ST5 := Lib.hid (ST4.out.set2 0)
            unfold numV
            go_wp2_with (first | (refine wpList_store_row rfl _ _ _ rfl g #[.int .u8 0, .int .i64 0, .int .u64 0] rfl rfl _ _ ST5.out.r Tryd.infoCc rfl (by simp [Value.oneCell']) ?_) | fail)
            refine bodyPost_ret (v := .tuple #[.agg #[.int .u8 0, .int .i64 0, .int .u64 0], .int .i64 27]) ?_ rfl ⟨by rw [E.out]; rfl, ST5.out.fin _⟩
            exact results_pt rfl _ _ g _ _ _ _ rfl rfl (setRow_heap _ _ _ _ _ _ ST5.out.r) Tryd.underlying26 rfl (by kernel_rfl)
          | some t =>
            rw [hz] at E
            have ST5 := Lib.hid (ST4.out.set2 t)
            unfold numV
            go_upto_region 15 with fail
            obtain ⟨w5, hw5⟩ : ∃ V, V = w4.setCell ⟨bc, 2, none⟩ (.int .u64 t) := ⟨_, rfl⟩
            rw [← hw5] at ST5 ⊢
            clear hw5 ST4 y1 y2 z1 z2
            obtain ⟨C, hC⟩ : ∃ C, C = checkC k (0 : Int) t := ⟨_, rfl⟩
            have HCK : Hid (∀ W, Calls Tryd.prog 9 #[.agg #[.int .u8 k, .int .i64 (0 : Int), .int .u64 t]] W fun e w' => e = .returned (.int .i64 C) ∧ Below W.heap.size W w') := by rw [hC]; exact fun W => ccheck_any k (0 : Int) t W
            have EC : Hid (O = if C = 0 then (k, (0 : Int), t, 0) else (0, 0, 0, C)) := by rw [hC]; exact E.out
            clear hC
            go_wp2_with (first | (refine wpList_load_row rfl _ _ rfl bc rfl _ _ _ _ ST5.out.c Tryd.underlying26 rfl (by kernel_rfl) ?_) | fail)
            all_goals
              refine (HCK.out _).mono ?_
              rintro _ w8 ⟨rfl, hb8⟩
              have ST8 := Lib.hid (ST5.out.later hb8)
              clear hb8 HCK
              by_cases hz : C = 0
              · subst hz
                have EE : Hid (O = (k, (0 : Int), t, 0)) := EC.out
                go_wp2_with (first | (refine wpList_load_row rfl _ _ rfl bc rfl _ _ _ _ ST8.out.c Tryd.underlying26 rfl (by kernel_rfl) ?_) | (refine wpList_store_row rfl _ _ _ rfl g #[.int .u8 k, .int .i64 (0 : Int), .int .u64 t] rfl rfl _ _ ST8.out.r Tryd.infoCc rfl (by simp [Value.oneCell']) ?_) | fail)
                refine bodyPost_ret (v := .tuple #[.agg #[.int .u8 k, .int .i64 (0 : Int), .int .u64 t], .int .i64 0]) ?_ rfl ⟨by rw [EE.out]; rfl, ST8.out.fin _⟩
                exact results_pt rfl _ _ g _ _ _ _ rfl rfl (setRow_heap _ _ _ _ _ _ ST8.out.r) Tryd.underlying26 rfl (by kernel_rfl)
              · have EE : Hid (O = (0, 0, 0, C)) := by rw [EC.out]; exact if_neg hz
                have q1 : (C == 0) = false := by rw [beq_eq_false_iff_ne]; exact hz
                go_wp2_with (first | (refine wpList_store_row rfl _ _ _ rfl g #[.int .u8 0, .int .i64 0, .int .u64 0] rfl rfl _ _ ST8.out.r Tryd.infoCc rfl (by simp [Value.oneCell']) ?_) | fail)
                refine bodyPost_ret (v := .tuple #[.agg #[.int .u8 0, .int .i64 0, .int .u64 0], .int .i64 C]) ?_ rfl ⟨by rw [EE.out]; rfl, ST8.out.fin _⟩
                exact results_pt rfl _ _ g _ _ _ _ rfl rfl (setRow_heap _ _ _ _ _ _ ST8.out.r) Tryd.underlying26 rfl (by kernel_rfl)
        · have hm2 : m = 3 := by rw [hm]; rcases h3 with rfl | rfl <;> rfl
          obtain ⟨y, u, rfl⟩ : ∃ y u, r = [y, u] := by
            match r, hrl with
            | [y, u], _ => exact ⟨y, u, rfl⟩
            | [], h => simp at h; omega
            | [_], h => simp at h; omega
            | _ :: _ :: _ :: _, h => simp at h; omega
          have hlk : limK k = true := by rcases h3 with rfl | rfl <;> rfl
          have htk : tkK k = true := by rcases h3 with rfl | rfl <;> rfl
          have hk6 := k6
          have HF : Hid (∀ W, Below w.heap.size w W → W.cell? ⟨0, k * 3 + 1, none⟩ = some (.bool true) ∧ W.cell? ⟨0, k * 3 + 2, none⟩ = some (.bool true) ∧ W.cell? ⟨b, q + 1, none⟩ = some (.string y) ∧ W.cell? ⟨b, q + 2, none⟩ = some (.string u) ∧ W.cell? ⟨b, q + 1 + 1, none⟩ = some (.string u)) := fun W hW => ⟨by have := ((HGT.out W hW).sp k hk6) 1 _ rfl; rw [← hlk]; exact this, by have := ((HGT.out W hW).sp k hk6) 2 _ rfl; rw [← htk]; exact this, HCL.out W hW 1 _ rfl, HCL.out W hW 2 _ rfl, HCL.out W hW 2 _ rfl⟩
          have HG1 := Lib.hid hg1
          clear hk6
          rw [hlk] at p1 HWD HSP
          rw [htk] at p2 HWD HSP
          have hn1 : 1 < n := by omega
          have hn2 : 2 < n := by omega
          have E : Hid (O = parsN k (signF y.data.toList) (numN u.data.toList 1048576)) := by show O = _; rw [hO, parsF_3 hk.symm h3]
          have HSG := Lib.hid (fun W hW => csign_any y W (hl y (by simp)) hW)
          have HNG := Lib.hid (fun W hW => cnum_any u 1048576 W (hl u (by simp)) hW)
          clear hw1 hg hc1 hb1 hO hn hl hr ht hk hcl hg1 hm hwk hwn hrl hm2 h3
          go_enter Tryd.func6, Tryd.ntmps6
          go_upto_region 1 with fail
          rw [← HW1.out, ← HG.out]
          go_wp2_with fail
          refine (HK.out w1 HGT1.out).mono ?_
          rintro _ w2 ⟨rfl, rfl⟩
          go_wp2_with fail
          refine (HWD.out w1).mono ?_
          rintro _ w2 ⟨rfl, hb2⟩
          obtain ⟨w3, hw3, hc3, hb3, hs3⟩ := boxP2 w2 26 #[.int .u8 0, .int .i64 0, .int .u64 0] #[.int .u8 k, .int .i64 0, .int .u64 0]
          obtain ⟨bc, hbc⟩ : ∃ b, b = w2.heap.size := ⟨_, rfl⟩
          rw [← hbc] at hc3
          have ST3 := Lib.hid (⟨hc3, (hb3.block _ (by have := hb2.size; have := HG1.out; omega)).trans (HCX.out w2 hb2), (HB1.out.trans (hb2.mono HB1.out.size)).trans (hb3.mono (HB1.out.trans (hb2.mono HB1.out.size)).size), (by have := hb2.size; have := HG1.out; omega), (by rw [hbc]; exact (HB1.out.trans (hb2.mono HB1.out.size)).size), (by rw [HG.out]; exact Nat.le_refl _)⟩ : ParSt w g bc k 0 0 w3)
          have HW3 := Lib.hid hw3
          have HBC := Lib.hid hbc
          clear hb2 p0 p1 p2 a0 hw3 hc3 hb3 hs3 hbc
          go_upto_region 7 with (first
            | (refine wpList_store_row rfl _ _ _ rfl w2.heap.size #[.int .u8 k, .int .i64 0, .int .u64 0] rfl rfl _ _ (heap_alloc_new _ _) Tryd.infoCc rfl (by simp [Value.oneCell']) ?_)
            | fail)
          first | rw [← HW3.out, act_put_pt] | rw [← HW3.out]
          rw [← HBC.out]
          clear HW3 HBC
          obtain ⟨p1, p2, a1, a2, a3⟩ := HF.out w3 ST3.out.below
          obtain ⟨y1, y2, z1, z2⟩ := ST3.out.cells
          have HGT3 := Lib.hid (HGT.out w3 ST3.out.below)
          go_wp2_with fail
          refine (HSG.out w3 HGT3.out.gc).mono ?_
          rintro _ w4 ⟨rfl, hb4⟩
          have ST4 := Lib.hid (ST3.out.later hb4)
          clear hb4 p1 p2 a1 a2 a3 y1 y2 z1 z2 ST3 HSG
          obtain ⟨y1, y2, z1, z2⟩ := ST4.out.cells
          cases hz : signF y.data.toList with
          | none =>
            rw [hz] at E
            have EB : Hid (O = (0, 0, 0, 27)) := by rw [E.out]; rfl
            have ST5 := Lib.hid (ST4.out.set1 0)
            unfold signV
            go_wp2_with (first | (refine wpList_store_row rfl _ _ _ rfl g #[.int .u8 0, .int .i64 0, .int .u64 0] rfl rfl _ _ ST5.out.r Tryd.infoCc rfl (by simp [Value.oneCell']) ?_) | fail)
            refine bodyPost_ret (v := .tuple #[.agg #[.int .u8 0, .int .i64 0, .int .u64 0], .int .i64 27]) ?_ rfl ⟨by rw [EB.out]; rfl, ST5.out.fin _⟩
            exact results_pt rfl _ _ g _ _ _ _ rfl rfl (setRow_heap _ _ _ _ _ _ ST5.out.r) Tryd.underlying26 rfl (by kernel_rfl)
          | some z =>
            rw [hz] at E
            have ST5 := Lib.hid (ST4.out.set1 z)
            unfold signV
            go_upto_region 10 with fail
            obtain ⟨w5, hw5⟩ : ∃ V, V = w4.setCell ⟨bc, 1, none⟩ (.int .i64 z) := ⟨_, rfl⟩
            rw [← hw5] at ST5 ⊢
            clear hw5 ST4 y1 y2 z1 z2
            obtain ⟨p1, p2, a1, a2, a3⟩ := HF.out w5 ST5.out.below
            have HGT5 := Lib.hid (HGT.out w5 ST5.out.below)
            go_wp2_with fail
            refine (HNG.out w5 HGT5.out.gc).mono ?_
            rintro _ w6 ⟨rfl, hb6⟩
            have ST6 := Lib.hid (ST5.out.later hb6)
            clear hb6 p1 p2 a1 a2 a3 ST5 HNG
            obtain ⟨y1, y2, z1, z2⟩ := ST6.out.cells
            cases ht : numN u.data.toList 1048576 with
            | none =>
              rw [ht] at E
              have ST7 := Lib.hid (ST6.out.set2 0)
              unfold numV
              go_wp2_with (first | (refine wpList_store_row rfl _ _ _ rfl g #[.int .u8 0, .int .i64 0, .int .u64 0] rfl rfl _ _ ST7.out.r Tryd.infoCc rfl (by simp [Value.oneCell']) ?_) | fail)
              refine bodyPost_ret (v := .tuple #[.agg #[.int .u8 0, .int .i64 0, .int .u64 0], .int .i64 27]) ?_ rfl ⟨by rw [E.out]; rfl, ST7.out.fin _⟩
              exact results_pt rfl _ _ g _ _ _ _ rfl rfl (setRow_heap _ _ _ _ _ _ ST7.out.r) Tryd.underlying26 rfl (by kernel_rfl)
            | some t =>
              rw [ht] at E
              have ST7 := Lib.hid (ST6.out.set2 t)
              unfold numV
              go_upto_region 15 with fail
              obtain ⟨w7, hw7⟩ : ∃ V, V = w6.setCell ⟨bc, 2, none⟩ (.int .u64 t) := ⟨_, rfl⟩
              rw [← hw7] at ST7 ⊢
              clear hw7 ST6 y1 y2 z1 z2
              obtain ⟨C, hC⟩ : ∃ C, C = checkC k z t := ⟨_, rfl⟩
              have HCK : Hid (∀ W, Calls Tryd.prog 9 #[.agg #[.int .u8 k, .int .i64 z, .int .u64 t]] W fun e w' => e = .returned (.int .i64 C) ∧ Below W.heap.size W w') := by rw [hC]; exact fun W => ccheck_any k z t W
              have EC : Hid (O = if C = 0 then (k, z, t, 0) else (0, 0, 0, C)) := by rw [hC]; exact E.out
              clear hC
              go_wp2_with (first | (refine wpList_load_row rfl _ _ rfl bc rfl _ _ _ _ ST7.out.c Tryd.underlying26 rfl (by kernel_rfl) ?_) | fail)
              all_goals
                refine (HCK.out _).mono ?_
                rintro _ w8 ⟨rfl, hb8⟩
                have ST8 := Lib.hid (ST7.out.later hb8)
                clear hb8 HCK
                by_cases hz : C = 0
                · subst hz
                  have EE : Hid (O = (k, z, t, 0)) := EC.out
                  go_wp2_with (first | (refine wpList_load_row rfl _ _ rfl bc rfl _ _ _ _ ST8.out.c Tryd.underlying26 rfl (by kernel_rfl) ?_) | (refine wpList_store_row rfl _ _ _ rfl g #[.int .u8 k, .int .i64 z, .int .u64 t] rfl rfl _ _ ST8.out.r Tryd.infoCc rfl (by simp [Value.oneCell']) ?_) | fail)
                  refine bodyPost_ret (v := .tuple #[.agg #[.int .u8 k, .int .i64 z, .int .u64 t], .int .i64 0]) ?_ rfl ⟨by rw [EE.out]; rfl, ST8.out.fin _⟩
                  exact results_pt rfl _ _ g _ _ _ _ rfl rfl (setRow_heap _ _ _ _ _ _ ST8.out.r) Tryd.underlying26 rfl (by kernel_rfl)
                · have EE : Hid (O = (0, 0, 0, C)) := by rw [EC.out]; exact if_neg hz
                  have q1 : (C == 0) = false := by rw [beq_eq_false_iff_ne]; exact hz
                  go_wp2_with (first | (refine wpList_store_row rfl _ _ _ rfl g #[.int .u8 0, .int .i64 0, .int .u64 0] rfl rfl _ _ ST8.out.r Tryd.infoCc rfl (by simp [Value.oneCell']) ?_) | fail)
                  refine bodyPost_ret (v := .tuple #[.agg #[.int .u8 0, .int .i64 0, .int .u64 0], .int .i64 C]) ?_ rfl ⟨by rw [EE.out]; rfl, ST8.out.fin _⟩
                  exact results_pt rfl _ _ g _ _ _ _ rfl rfl (setRow_heap _ _ _ _ _ _ ST8.out.r) Tryd.underlying26 rfl (by kernel_rfl)
      · have E : Hid (O = (0, 0, 0, 2)) := by show O = _; rw [hO, parsF_many hk.symm (fun e => hwn (by rw [hn, hm]; simpa using e))]
        have d1 : ((n : Int) == (m : Int)) = false := by rw [beq_eq_false_iff_ne]; omega
        clear hw1 hg hc1 hb1 hO hn hc hl hr ht hk hcl hg1 hm hwk hwn
        go_enter Tryd.func6, Tryd.ntmps6
        go_upto_region 1 with fail
        rw [← HW1.out, ← HG.out]
        go_wp2_with fail
        refine (HK.out w1 HGT1.out).mono ?_
        rintro _ w2 ⟨rfl, rfl⟩
        go_wp2_with fail
        refine (HWD.out w1).mono ?_
        rintro _ w2 ⟨rfl, hb2⟩
        have HB2 := Lib.hid hb2
        clear hb2 p0 p1 p2 a0
        go_wp2_with (first | (refine wpList_store_row rfl _ _ _ rfl g #[.int .u8 0, .int .i64 0, .int .u64 0] rfl rfl _ _ (HCX.out w2 HB2.out) Tryd.infoCc rfl (by simp [Value.oneCell']) ?_) | fail)
        refine bodyPost_ret (v := .tuple #[.agg #[.int .u8 0, .int .i64 0, .int .u64 0], .int .i64 2]) ?_ rfl ⟨by rw [E.out]; rfl, below_setRow (HB1.out.trans (HB2.out.mono HB1.out.size)) (by rw [HG.out]; exact Nat.le_refl _) _⟩
        exact results_pt rfl _ _ g _ _ _ _ rfl rfl (setRow_heap _ _ _ _ _ _ (HCX.out w2 HB2.out)) Tryd.underlying26 rfl (by kernel_rfl)
end Go.Proofs.YthggaedpbmjclaaDoor
