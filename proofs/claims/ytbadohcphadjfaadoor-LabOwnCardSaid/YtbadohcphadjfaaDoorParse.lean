/- Layer 1: lab.Parse: a loop over strings.SplitSeq. -/
import Derived.Test.YtbadohcphadjfaaDoorMake
import Derived.Test.YtbadohcphadjfaaDoorSplit
import Derived.Maps.AppendAt
namespace Go.Proofs.YtbadohcphadjfaaDoor
open Go.RowKit
attribute [local go_sem] Oper.semAt_some

/-- a part as a pair -/
def partP (x : ByteArray) : Option Pr := (cutL 61 x.data.toList).map fun p => (strOf p.1, strOf p.2)
def partsP : List ByteArray → List Pr → List Pr × Nat
  | [], acc => makeP acc
  | x :: r, acc => match partP x with
    | none => ([], 2)
    | some p => if acc.length = 8 then ([], 5) else partsP r (acc ++ [p])
def parseP (s : ByteArray) : List Pr × Nat :=
  if 65536 < s.size then ([], 4) else if s.size = 0 then ([], 0) else partsP (splitS 44 s) []

/-- the pairs of parts, all of which are pairs -/
def pairsP (xs : List ByteArray) : List Pr := xs.filterMap partP
def Good (xs : List ByteArray) : Prop := ∀ x ∈ xs, ∃ p, partP x = some p
theorem pairsP_length {xs : List ByteArray} (h : Good xs) : (pairsP xs).length = xs.length := by
  induction xs with
  | nil => rfl
  | cons x r ih =>
    obtain ⟨p, hp⟩ := h x (by simp)
    simp [pairsP, hp] at ih ⊢
    exact ih fun y hy => h y (by simp [hy])
theorem partsP_good : ∀ (xs r : List ByteArray) (acc : List Pr), Good xs → acc.length + xs.length ≤ 8 → partsP (xs ++ r) acc = partsP r (acc ++ pairsP xs)
  | [], r, acc, _, _ => by simp [pairsP]
  | x :: xs, r, acc, hg, hl => by
    obtain ⟨p, hp⟩ := hg x (by simp)
    have hl' : acc.length ≠ 8 := by simp at hl; omega
    rw [List.cons_append, partsP, hp]
    simp only [if_neg hl']
    rw [partsP_good xs r (acc ++ [p]) (fun y hy => hg y (by simp [hy])) (by simp at hl ⊢; omega)]
    simp [pairsP, hp]
theorem partsP_all {xs : List ByteArray} (hg : Good xs) (hl : xs.length ≤ 8) : partsP xs [] = makeP (pairsP xs) := by
  have h := partsP_good xs [] [] hg (by simpa using hl)
  simpa [partsP] using h
theorem partsP_form {xs all : List ByteArray} {x : ByteArray} (hg : Good xs) (hl : xs.length ≤ 8) (hp : (xs ++ [x]) <+: all) (hx : partP x = none) : partsP all [] = ([], 2) := by
  obtain ⟨r, rfl⟩ := hp
  rw [List.append_assoc, partsP_good xs _ [] hg (by simpa using hl)]
  simp [partsP, hx]
theorem partsP_many {xs all : List ByteArray} {x : ByteArray} {p : Pr} (hg : Good xs) (hl : xs.length = 8) (hp : (xs ++ [x]) <+: all) (hx : partP x = some p) : partsP all [] = ([], 5) := by
  obtain ⟨r, rfl⟩ := hp
  rw [List.append_assoc, partsP_good xs _ [] hg (by simp; omega)]
  simp [partsP, hx, pairsP_length hg, hl]
theorem Good.snoc {xs : List ByteArray} {x : ByteArray} {p : Pr} (hg : Good xs) (hx : partP x = some p) : Good (xs ++ [x]) := fun y hy => by
  simp at hy
  rcases hy with hy | rfl
  · exact hg y hy
  · exact ⟨p, hx⟩
theorem pairsP_snoc {xs : List ByteArray} {x : ByteArray} {p : Pr} (hx : partP x = some p) : pairsP (xs ++ [x]) = pairsP xs ++ [p] := by simp [pairsP, hx]
theorem splitL_sizes (c : UInt8) : ∀ (l : List UInt8) (x : List UInt8), x ∈ splitL c l → x.length ≤ l.length
  | [], x, h => by simp [splitL] at h; simp [h]
  | b :: r, x, h => by
    rw [splitL] at h
    split at h
    · simp at h
      rcases h with rfl | h
      · simp
      · have := splitL_sizes c r x h; simp; omega
    · split at h
      · rename_i e; exact absurd e (splitL_ne c r)
      · rename_i a t e
        have ih := splitL_sizes c r
        rw [e] at ih
        simp at h
        rcases h with rfl | h
        · have := ih a (by simp); simp; omega
        · have := ih x (by simp [h]); simp; omega
theorem splitS_sizes {c : UInt8} {s x : ByteArray} (h : x ∈ splitS c s) : x.size ≤ s.size := by
  simp only [splitS, List.mem_map] at h
  obtain ⟨l, hl, rfl⟩ := h
  exact splitL_sizes c _ l hl

theorem keepsOthers_below {W W' : World} (h : Below W.heap.size W W') : KeepsOthers W W' :=
  ⟨h.size, fun k _ hk _ => (h.block k (Array.getElem?_eq_some_iff.1 hk).1).trans hk⟩
theorem same_below {g0 g1 : Nat} {W W' : World} (h : Below W.heap.size W W') (hg : g1 ≤ W.heap.size) : Same g0 g1 W W' := fun k _ hk => h.block k (by omega)

theorem boxed_below {W W' : World} {B : Nat} {t : TypeId} {v : Value} (h : Boxed W B t v) (hb : Below W.heap.size W W') : Boxed W' B t v := (hb.block B h.lt).trans h
theorem boxed_appended {w2 w3 : World} {B Bv : Nat} {t e : TypeId} {size n base : Nat} {u v : Value} {xs : List Value} {tmp : Obj} (h : Boxed w2 B t u) (hte : t ≠ e) (hrow : w2.ownsRow base e size v n xs) (hgrow : (w2.alloc tmp).grownBy w3 v.ownBlock) (hne : B ≠ Bv) (x : Value) : Boxed (w3.setCell ⟨Bv, 0, none⟩ x) B t u :=
  boxed_other ((h.alloc tmp).kept hgrow (h.not_row hte hrow)) hne x
theorem own_ok {W : World} {base : Nat} {e : TypeId} {size n c : Nat} {A : Option Addr} {xs : List Value} (h : W.ownsRow base e size (.slice A n c) n xs) : OkA A n := by
  rcases h.2 with ⟨e0, h0⟩ | ⟨g, cap, cur, e0, _⟩
  · injection e0 with e1
    exact ⟨fun _ => h0, fun a ha => (by rw [e1] at ha; cases ha)⟩
  · injection e0 with e1
    exact ⟨fun hA => (by rw [e1] at hA; cases hA), fun a ha => ⟨g, 0, (by rw [e1] at ha; exact (Option.some.inj ha).symm)⟩⟩
theorem boxed_put {W : World} {B D : Nat} {t : TypeId} {v : Value} {o o' : Obj} (h : Boxed W B t v) (hD : W.heap[D]? = some o) (ho : o.isCells = false) : Boxed (W.putObj D o') B t v :=
  (World.putObj_heap_other (fun e => by
    subst e
    have h1 := (show W.heap[B]? = _ from h).symm.trans hD
    cases h1
    cases ho)).trans h
theorem own_le {W : World} {base base' : Nat} {e : TypeId} {size n : Nat} {v : Value} {xs : List Value} (h : W.ownsRow base e size v n xs) (hb : base' ≤ base) : W.ownsRow base' e size v n xs :=
  ⟨h.1, h.2.imp id fun ⟨g, cap, cur, h1, h2, h3⟩ => ⟨g, cap, cur, h1, Nat.le_trans hb h2, h3⟩⟩
theorem two_cells (w : World) (a b : Value) (t : TypeId) : ∀ (j : Nat) (u : Value), [a, b][j]? = some u → (w.alloc (.cells #[a, b] t)).cell? (Addr.add ⟨w.heap.size, 0, none⟩ j) = some u := by
  intro j u hj
  rw [Addr.add_lit, World.cell?_alloc_at _ _ _ _ rfl]
  match j, hj with
  | 0, hj => simpa using hj
  | 1, hj => simpa using hj
theorem own_from {W W' : World} {row : Option Nat} {base : Nat} {e : TypeId} {size n : Nat} {v : Value} {xs : List Value} (h : W.ownsRow base e size v n xs) (hg : W.grownBy W' row) (hr : ∀ r, row = some r → ∃ o : Obj, W.heap[r]? = some o ∧ o.isCells = false) : W'.ownsRow base e size v n xs :=
  h.kept hg (by
    rcases h.2 with ⟨rfl, _⟩ | ⟨g, cap, cur, rfl, _, hh, _⟩
    · exact Or.inl rfl
    · refine Or.inr fun e => ?_
      obtain ⟨o, ho, hc⟩ := hr g e.symm
      rw [hh] at ho
      cases ho
      cases hc)

set_option maxRecDepth 100000 in
set_option maxHeartbeats 4000000 in
theorem parse_any (s : ByteArray) (w : World) :
    Calls Tryd.prog 24 #[.string s] w fun e w' => ∃ v, e = .returned (.tuple #[v, .int .i64 ((parseP s).2 : Nat)]) ∧ w'.ownsRow w.heap.size 48 2 v (parseP s).1.length (cellsP (parseP s).1) ∧ Below w.heap.size w w' := by
  refine (callsIn_wide (n := 3)).1 ?_
  by_cases hbig : 65536 < s.size
  · have Hf : Hid (parseP s = ([], 4)) := if_pos hbig
    have hb1 : decide ((65536 : Int) < (s.size : Int)) = true := decide_eq_true (by omega)
    refine callsIn_of_wp_marks Tryd.func24 rfl trivial ?_ rfl
    simp only [Tryd.ntmps24, List.size_toArray, List.length_cons, List.length_nil, Nat.reduceAdd, Nat.reduceSub, Array.replicate_succ, Array.replicate_zero, List.push_toArray, List.append_toArray, List.nil_append, List.cons_append]
    gi_wp2
    have k0 := ((Boxed.new w 24 (.slice none 0 0)).alloc (.cells #[.int .i64 4] 25)).cell
    have k1 := (Boxed.new (w.alloc (.cells #[.slice none 0 0] 24)) 25 (.int .i64 4)).cell
    simp only [World.size_alloc] at k0 k1
    refine ⟨.tuple #[.slice none 0 0, .int .i64 4], by simp [results, Tryd.results24, go_sem, k0, k1], _, by rw [Hf.out]; rfl, ?_, ((Below.refl _ w).alloc (Nat.le_refl _) _).alloc (by simp) _⟩
    rw [Hf.out]
    exact World.ownsRow_nil _ _ _ _
  · by_cases hz : s.size = 0
    · have Hf : Hid (parseP s = ([], 0)) := by show parseP s = _; rw [parseP, if_neg hbig, if_pos hz]
      have hb1 : decide ((65536 : Int) < (s.size : Int)) = false := decide_eq_false (by omega)
      have hb2 : s.toList.isEmpty = true := by
        rw [ByteArray.toList_eq, List.isEmpty_iff, ← List.length_eq_zero_iff, Array.length_toList]; exact hz
      refine callsIn_of_wp_marks Tryd.func24 rfl trivial ?_ rfl
      simp only [Tryd.ntmps24, List.size_toArray, List.length_cons, List.length_nil, Nat.reduceAdd, Nat.reduceSub, Array.replicate_succ, Array.replicate_zero, List.push_toArray, List.append_toArray, List.nil_append, List.cons_append]
      gi_wp2
      have k0 := ((Boxed.new w 24 (.slice none 0 0)).alloc (.cells #[.int .i64 0] 25)).cell
      have k1 := (Boxed.new (w.alloc (.cells #[.slice none 0 0] 24)) 25 (.int .i64 0)).cell
      simp only [World.size_alloc] at k0 k1
      refine ⟨.tuple #[.slice none 0 0, .int .i64 0], by simp [results, Tryd.results24, go_sem, k0, k1], _, by rw [Hf.out]; rfl, ?_, ((Below.refl _ w).alloc (Nat.le_refl _) _).alloc (by simp) _⟩
      rw [Hf.out]
      exact World.ownsRow_nil _ _ _ _
    · have Hf : Hid (parseP s = partsP (splitS 44 s) []) := by show parseP s = _; rw [parseP, if_neg hbig, if_neg hz]
      have hs1 : s.size ≤ 65536 := by omega
      have hb1 : decide ((65536 : Int) < (s.size : Int)) = false := decide_eq_false (by omega)
      have hb2 : s.toList.isEmpty = false := by
        rw [ByteArray.toList_eq, List.isEmpty_eq_false_iff, ← List.length_pos_iff]; show 0 < s.data.toList.length; rw [Array.length_toList]; show 0 < s.size; omega
      refine callsIn_of_wp_marks Tryd.func24 rfl trivial ?_ rfl
      simp only [Tryd.ntmps24, List.size_toArray, List.length_cons, List.length_nil, Nat.reduceAdd, Nat.reduceSub, Array.replicate_succ, Array.replicate_zero, List.push_toArray, List.append_toArray, List.nil_append, List.cons_append]
      gi_wp2_with (refine ⟨trivial, ?_⟩; gi_at_call 47; refine (callsIn_wide.2 (splitSeq_any _ _ _)).mono ?_; rintro e w' ⟨rfl, rfl⟩)
      have hsz : (((((((w.alloc (.cells #[.slice none 0 0] 24)).alloc (.cells #[.int .i64 0] 25)).alloc (.cells #[.slice none 0 0] 24)).alloc (.cells #[.string s] 9)).alloc (.cells #[.string ⟨#[44]⟩] 9)).alloc (.cells #[.int .i64 0] 3))).heap.size = w.heap.size + 6 := by simp
      have hB0 : Below w.heap.size w (((((((w.alloc (.cells #[.slice none 0 0] 24)).alloc (.cells #[.int .i64 0] 25)).alloc (.cells #[.slice none 0 0] 24)).alloc (.cells #[.string s] 9)).alloc (.cells #[.string ⟨#[44]⟩] 9)).alloc (.cells #[.int .i64 0] 3))) :=
        ((((((Below.refl _ w).alloc (Nat.le_refl _) _).alloc (by simp) _).alloc (by simp; omega) _).alloc (by simp; omega) _).alloc (by simp; omega) _).alloc (by simp; omega) _
      have b0 := ((((((Boxed.new w 24 (.slice none 0 0)).alloc (.cells #[.int .i64 0] 25)).alloc (.cells #[.slice none 0 0] 24)).alloc (.cells #[.string s] 9)).alloc (.cells #[.string ⟨#[44]⟩] 9)).alloc (.cells #[.int .i64 0] 3))
      have b1 := (((((Boxed.new (w.alloc (.cells #[.slice none 0 0] 24)) 25 (.int .i64 0)).alloc (.cells #[.slice none 0 0] 24)).alloc (.cells #[.string s] 9)).alloc (.cells #[.string ⟨#[44]⟩] 9)).alloc (.cells #[.int .i64 0] 3))
      have b2 := ((((Boxed.new ((w.alloc (.cells #[.slice none 0 0] 24)).alloc (.cells #[.int .i64 0] 25)) 24 (.slice none 0 0)).alloc (.cells #[.string s] 9)).alloc (.cells #[.string ⟨#[44]⟩] 9)).alloc (.cells #[.int .i64 0] 3))
      have b3 := (((Boxed.new (((w.alloc (.cells #[.slice none 0 0] 24)).alloc (.cells #[.int .i64 0] 25)).alloc (.cells #[.slice none 0 0] 24)) 9 (.string s)).alloc (.cells #[.string ⟨#[44]⟩] 9)).alloc (.cells #[.int .i64 0] 3))
      have b4 := ((Boxed.new ((((w.alloc (.cells #[.slice none 0 0] 24)).alloc (.cells #[.int .i64 0] 25)).alloc (.cells #[.slice none 0 0] 24)).alloc (.cells #[.string s] 9)) 9 (.string ⟨#[44]⟩)).alloc (.cells #[.int .i64 0] 3))
      have b5 := (Boxed.new (((((w.alloc (.cells #[.slice none 0 0] 24)).alloc (.cells #[.int .i64 0] 25)).alloc (.cells #[.slice none 0 0] 24)).alloc (.cells #[.string s] 9)).alloc (.cells #[.string ⟨#[44]⟩] 9)) 3 (.int .i64 0))
      simp only [World.size_alloc, Nat.add_assoc, Nat.reduceAdd] at b0 b1 b2 b3 b4 b5 ⊢
      generalize (((((((w.alloc (.cells #[.slice none 0 0] 24)).alloc (.cells #[.int .i64 0] 25)).alloc (.cells #[.slice none 0 0] 24)).alloc (.cells #[.string s] 9)).alloc (.cells #[.string ⟨#[44]⟩] 9)).alloc (.cells #[.int .i64 0] 3))) = W0 at hsz hB0 b0 b1 b2 b3 b4 b5 ⊢
      have Hsz := Lib.hid hsz
      refine wpIn_range rfl (by omega) (gf := 79) (lb := #[.pointer (some ⟨w.heap.size + 4, 0, none⟩), .pointer (some ⟨w.heap.size + 3, 0, none⟩), .pointer (some ⟨w.heap.size + 5, 0, none⟩)]) rfl trivial (enters_of Tryd.func79 (by kernel_rfl) rfl)
        (encs := fun x : ByteArray => #[.string x]) (g0 := w.heap.size + 3) (g1 := w.heap.size + 6) (by omega) (by omega) (S := fun xs => xs = splitS 44 s) (ok := fun pre x => (pre ++ [x]) <+: splitS 44 s) ?iter (fun _ => rfl)
        (fun pre W => ((∃ u, Boxed W (w.heap.size + 3) 9 u) ∧ (∃ u, Boxed W (w.heap.size + 4) 9 u) ∧ (∃ u, Boxed W (w.heap.size + 5) 3 u)) ∧ (∃ v, Boxed W (w.heap.size + 2) 24 v ∧ W.ownsRow w.heap.size 48 2 v pre.length (cellsP (pairsP pre))) ∧ Boxed W w.heap.size 24 (.slice none 0 0) ∧ Boxed W (w.heap.size + 1) 25 (.int .i64 0) ∧ (Good pre ∧ pre.length ≤ 8) ∧ Below w.heap.size w W)
        (fun _ W => (∃ code : Nat, Boxed W w.heap.size 24 (.slice none 0 0) ∧ Boxed W (w.heap.size + 1) 25 (.int .i64 code) ∧ Hid (parseP s = ([], code))) ∧ Below w.heap.size w W)
        ?hI ?hIs ?hIx ?h0 (fun x => { tmps := #[.string s, undef, .pointer (some ⟨w.heap.size, 0, none⟩), .pointer (some ⟨w.heap.size + 1, 0, none⟩), .pointer (some ⟨w.heap.size + 2, 0, none⟩), .string x, undef, undef, undef, .string s,
          .int .i64 s.size, .bool false, .string s, .bool false, .string s, .func (.func 79) #[] #[.pointer (some ⟨w.heap.size + 4, 0, none⟩), .pointer (some ⟨w.heap.size + 3, 0, none⟩), .pointer (some ⟨w.heap.size + 5, 0, none⟩)],
          .string x, undef, undef, undef, undef, undef, undef, undef, undef, undef, undef, undef, undef, undef, undef, undef, undef, undef, undef, undef, undef, undef], defers := [] }) ?assign ?body ?done ?stop
      case assign =>
        intro l x W K hK
        gi_wp2
        exact hK
      case iter =>
        intro l J Jx W hs hB hset hY hJ
        exact splitIter_any Fence.wide _ trivial trivial (fun s c W => callsIn_wide.2 (Tryd.strings_Index_one s c W)) rfl (by omega) l (w.heap.size + 3) 44 s (by omega) J Jx hset hY W
          (boxed_same b3 hs (by omega) (by omega)) (boxed_same b4 hs (by omega) (by omega)) (boxed_same b5 hs (by omega) (by omega)) hJ
      case h0 => exact ⟨⟨⟨_, b3⟩, ⟨_, b4⟩, ⟨_, b5⟩⟩, ⟨_, b2, World.ownsRow_nil _ _ _ _⟩, b0, b1, ⟨fun x hx => by simp at hx, by simp⟩, hB0⟩
      case hI =>
        rintro pre A A' row ⟨⟨⟨u, hu⟩, ⟨u4, hu4⟩, ⟨u5, hu5⟩⟩, ⟨v, bv, hrow⟩, br, be, hgl, hBw⟩ hg hr
        have hne : ∀ k, k < w.heap.size + 6 → some k ≠ row := fun k hk e => by have := (hr k e.symm).1; have := Hsz.out; omega
        exact ⟨⟨⟨u, hu.kept hg (hne _ (by omega))⟩, ⟨u4, hu4.kept hg (hne _ (by omega))⟩, ⟨u5, hu5.kept hg (hne _ (by omega))⟩⟩, ⟨v, bv.kept hg (hne _ (by omega)), own_from hrow hg fun r e => (hr r e).2⟩, br.kept hg (hne _ (by omega)), be.kept hg (hne _ (by omega)), hgl, hBw.grown hg hBw.size fun k e => by have := (hr k e).1; have := Hsz.out; omega⟩
      case hIs =>
        rintro pre A x ⟨⟨⟨u, hu⟩, ⟨u4, hu4⟩, ⟨u5, hu5⟩⟩, ⟨v, bv, hrow⟩, br, be, hgl, hBw⟩
        exact ⟨⟨⟨x, hu.set x⟩, ⟨u4, boxed_other hu4 (by omega) _⟩, ⟨u5, boxed_other hu5 (by omega) _⟩⟩, ⟨v, boxed_other bv (by omega) _, ownsRow_setCell_other hrow (hu.not_row (by decide) hrow).symm _⟩, boxed_other br (by omega) _, boxed_other be (by omega) _, hgl, hBw.setCell (p := ⟨w.heap.size + 3, 0, none⟩) (by show w.heap.size ≤ w.heap.size + 3; omega) _⟩
      case hIx =>
        rintro pre A A' row ⟨⟨code, br, be, hf⟩, hBw⟩ hg hr
        have hne : ∀ k, k < w.heap.size + 6 → some k ≠ row := fun k hk e => by have := (hr k e.symm).1; have := Hsz.out; omega
        exact ⟨⟨code, br.kept hg (hne _ (by omega)), be.kept hg (hne _ (by omega)), hf⟩, hBw.grown hg hBw.size fun k e => by have := (hr k e).1; have := Hsz.out; omega⟩
      case body =>
        rintro l pre x W ⟨⟨⟨u, hu⟩, ⟨u4, hu4⟩, ⟨u5, hu5⟩⟩, ⟨v, bv, hrow⟩, br, be, ⟨hgood, hlen⟩, hBw⟩ hpre
        have hxs : x.size ≤ 1048576 := by
          have h1 := splitS_sizes (hpre.subset (show x ∈ pre ++ [x] by simp))
          omega
        obtain ⟨xl, rfl⟩ : ∃ xl, x = strOf xl := ⟨x.data.toList, (strOf_data x).symm⟩
        have hcut := cut_any xl 61 hxs
        have hpart : partP (strOf xl) = (cutL 61 xl).map fun p => (strOf p.1, strOf p.2) := by rw [partP, strOf_list]
        have Hsl := Lib.hid hpre
        cases hc : cutL 61 xl with
        | none =>
          have e1 : cutV 61 xl = .tuple #[.string (strOf xl), .string ⟨#[]⟩, .bool false] := by rw [cutV, hc]
          rw [e1] at hcut
          rw [hc] at hpart
          have Hres : Hid (parseP s = ([], 2)) := Hf.out.trans (partsP_form hgood hlen hpre hpart)
          have Hcut := Lib.hid hcut
          clear hcut hpart hc e1 hpre
          gi_wp2_with (refine ⟨trivial, ?_⟩; gi_at_call 48; refine (CallsIn.inRound l (callsIn_wide.2 (Hcut.out _))).mono ?_; rintro e w2 ⟨rfl, hb2⟩; have br2 := boxed_below br hb2; have be2 := boxed_below be hb2; have c1 := br2.cell; have c2 := br2.frozen; have c3 := be2.cell; have c4 := be2.frozen; have hBw2 := hBw.trans (hb2.mono hBw.size))
          exact ⟨((keepsOthers_below hb2).trans (KeepsOthers.setCell _ _ _)).trans (KeepsOthers.setCell _ _ _), ⟨2, boxed_other (br2.set _) (by omega) _, (boxed_other be2 (by omega) _).set _, Hres⟩, (hBw2.setCell (p := ⟨w.heap.size, 0, none⟩) (Nat.le_refl _) _).setCell (p := ⟨w.heap.size + 1, 0, none⟩) (by show w.heap.size ≤ w.heap.size + 1; omega) _⟩
        | some p =>
          have e1 : cutV 61 xl = .tuple #[.string (strOf p.1), .string (strOf p.2), .bool true] := by rw [cutV, hc]
          rw [e1] at hcut
          rw [hc] at hpart
          have Hpart : Hid (partP (strOf xl) = some (strOf p.1, strOf p.2)) := hpart
          have Hcut := Lib.hid hcut
          obtain ⟨A, cp, rfl⟩ := own_slice hrow
          by_cases h8 : pre.length = 8
          · have Hres : Hid (parseP s = ([], 5)) := Hf.out.trans (partsP_many hgood h8 hpre hpart)
            have hb8 : ((pre.length : Int) == 8) = true := beq_iff_eq.2 (by omega)
            clear hcut hpart hc e1 hpre h8
            gi_wp2_with (refine ⟨trivial, ?_⟩; gi_at_call 48; refine (CallsIn.inRound l (callsIn_wide.2 (Hcut.out _))).mono ?_; rintro e w2 ⟨rfl, hb2⟩; have br2 := boxed_below br hb2; have be2 := boxed_below be hb2; have bv2 := boxed_below bv hb2; have c1 := br2.cell; have c2 := br2.frozen; have c3 := be2.cell; have c4 := be2.frozen; have c5 := bv2.cell; have hBw2 := hBw.trans (hb2.mono hBw.size))
            exact ⟨((keepsOthers_below hb2).trans (KeepsOthers.setCell _ _ _)).trans (KeepsOthers.setCell _ _ _), ⟨5, boxed_other (br2.set _) (by omega) _, (boxed_other be2 (by omega) _).set _, Hres⟩, (hBw2.setCell (p := ⟨w.heap.size, 0, none⟩) (Nat.le_refl _) _).setCell (p := ⟨w.heap.size + 1, 0, none⟩) (by show w.heap.size ≤ w.heap.size + 1; omega) _⟩
          · have hb8 : ((pre.length : Int) == 8) = false := beq_eq_false_iff_ne.2 (by omega)
            have h7 : pre.length < 8 := by omega
            obtain ⟨i0, hi, hz0, hz1, hz2⟩ := info_parts Tryd.infoP
            clear hcut hpart hc e1 hpre h8
            gi_wp2_with (first
              | (refine ⟨trivial, ?_⟩; gi_at_call 48; refine (CallsIn.inRound l (callsIn_wide.2 (Hcut.out _))).mono ?_; rintro e w2 ⟨rfl, hb2⟩; have hu2 := boxed_below hu hb2; have hu42 := boxed_below hu4 hb2; have hu52 := boxed_below hu5 hb2; have br2 := boxed_below br hb2; have be2 := boxed_below be hb2; have bv2 := boxed_below bv hb2; have c1 := br2.cell; have c2 := br2.frozen; have c3 := be2.cell; have c4 := be2.frozen; have c5 := bv2.cell; have c6 := bv2.frozen; have hBw2 := hBw.trans (hb2.mono hBw.size); have hrow2 := own_below hrow hb2)
              | (gi_at_builtin; refine wpListIn_append_own _ rfl _ _ 24 rfl w.heap.size 48 i0 (.agg #[.string ⟨#[]⟩, .string ⟨#[]⟩]) 2 32 Tryd.underlying24 hi hz0 hz1 hz2 rfl (by decide) _ _ _ rfl (hrow2.alloc _) ⟨w2.heap.size, 0, none⟩ 1 1 [.string (strOf p.1), .string (strOf p.2)] rfl rfl (two_cells _ _ _ _) (by simp [Value.oneCell']) (by unfold maxLen; omega) (by omega) (by have := hBw2.size; simp; omega) ?_; intro v' w3 hown' hgrow _; obtain ⟨g', cap', rfl⟩ := ownsRow_succ hown'; obtain ⟨hv1, hv2, hr2, hk2, hbb2⟩ := bv2.appended (by decide) hrow2 hBw2.size (by omega) hown' hgrow; have d1 := hv1.cell; have d2 := hv1.frozen))
            have q0 := boxed_appended br2 (by decide) hrow2 hgrow (Bv := w.heap.size + 2) (by omega) (.slice (some ⟨g', 0, none⟩) (pre.length + 1) cap')
            have q1 := boxed_appended be2 (by decide) hrow2 hgrow (Bv := w.heap.size + 2) (by omega) (.slice (some ⟨g', 0, none⟩) (pre.length + 1) cap')
            have q3 := boxed_appended hu2 (by decide) hrow2 hgrow (Bv := w.heap.size + 2) (by omega) (.slice (some ⟨g', 0, none⟩) (pre.length + 1) cap')
            have q4 := boxed_appended hu42 (by decide) hrow2 hgrow (Bv := w.heap.size + 2) (by omega) (.slice (some ⟨g', 0, none⟩) (pre.length + 1) cap')
            have q5 := boxed_appended hu52 (by decide) hrow2 hgrow (Bv := w.heap.size + 2) (by omega) (.slice (some ⟨g', 0, none⟩) (pre.length + 1) cap')
            refine ⟨(keepsOthers_below hb2).trans hk2, fun k h1 h2 => ?_, ⟨⟨_, q3⟩, ⟨_, q4⟩, ⟨_, q5⟩⟩, ⟨_, hv2, ?_⟩, q0, q1, ⟨hgood.snoc Hpart.out, by simp; omega⟩, hBw2.trans hbb2⟩
            · rcases (by omega : k = w.heap.size + 3 ∨ k = w.heap.size + 4 ∨ k = w.heap.size + 5) with rfl | rfl | rfl
              · exact q3.trans hu.symm
              · exact q4.trans hu4.symm
              · exact q5.trans hu5.symm
            · rw [pairsP_snoc Hpart.out, cellsP_append, List.length_append]
              exact hr2
      case done =>
        rintro D xs W hD hxs0 ⟨-, ⟨v, bv, hrow⟩, br, be, ⟨hgood, hlen⟩, hBw⟩ hK
        obtain ⟨A, cp, rfl⟩ := own_slice hrow
        have hmk := make_any A xs.length cp (pairsP xs) W (by rw [pairsP_length hgood]) (own_ok hrow) (by omega) (RdP.of_own hrow)
        have hfin : parseP s = makeP (pairsP xs) := Hf.out.trans (by rw [← hxs0]; exact partsP_all hgood hlen)
        rw [← hfin] at hmk
        have Hmk := Lib.hid hmk
        have c5 := bv.cell
        clear hmk hfin hgood hxs0
        gi_wp2_with (first | (gi_at_call 15; refine (callsIn_wide.2 Hmk.out).mono ?_; rintro e w2 ⟨v2, rfl, hown2, hb2⟩; obtain ⟨A2, cp2, rfl⟩ := own_slice hown2; have br2 := boxed_below br hb2; have be2 := boxed_below be hb2; have c1 := br2.cell; have c2 := br2.frozen; have c3 := be2.cell; have c4 := be2.frozen) | (refine ⟨trivial, ?_⟩; gi_at_call 15; refine (callsIn_wide.2 Hmk.out).mono ?_; rintro e w2 ⟨v2, rfl, hown2, hb2⟩; obtain ⟨A2, cp2, rfl⟩ := own_slice hown2; have br2 := boxed_below br hb2; have be2 := boxed_below be hb2; have c1 := br2.cell; have c2 := br2.frozen; have c3 := be2.cell; have c4 := be2.frozen))
        have hs0 := Hsz.out
        have hD2 : w2.heap[D]? = some (.deferred (some [])) := (hb2.block D (Array.getElem?_eq_some_iff.1 hK).1).trans hK
        have r0 := boxed_other (br2.set (.slice A2 (parseP s).1.length cp2)) (show w.heap.size ≠ w.heap.size + 1 by omega) (.int .i64 ((parseP s).2 : Nat))
        have r1 := (boxed_other be2 (show w.heap.size + 1 ≠ w.heap.size by omega) (.slice A2 (parseP s).1.length cp2)).set (.int .i64 ((parseP s).2 : Nat))
        have hD3 : ((w2.setCell ⟨w.heap.size, 0, none⟩ (.slice A2 (parseP s).1.length cp2)).setCell ⟨w.heap.size + 1, 0, none⟩ (.int .i64 ((parseP s).2 : Nat))).heap[D]? = some (.deferred (some [])) :=
          (Below.heap_setCell _ _ _ D (by show D ≠ w.heap.size + 1; omega)).trans ((Below.heap_setCell _ _ _ D (by show D ≠ w.heap.size; omega)).trans hD2)
        have hown3 : ((w2.setCell ⟨w.heap.size, 0, none⟩ (.slice A2 (parseP s).1.length cp2)).setCell ⟨w.heap.size + 1, 0, none⟩ (.int .i64 ((parseP s).2 : Nat))).ownsRow W.heap.size 48 2 (.slice A2 (parseP s).1.length cp2) (parseP s).1.length (cellsP (parseP s).1) :=
          ownsRow_setCell_below (ownsRow_setCell_below hown2 (by have := hBw.size; have := be.lt; show w.heap.size < W.heap.size; omega) _) (by have := be.lt; show w.heap.size + 1 < W.heap.size; omega) _
        have hBw3 : Below w.heap.size w ((w2.setCell ⟨w.heap.size, 0, none⟩ (.slice A2 (parseP s).1.length cp2)).setCell ⟨w.heap.size + 1, 0, none⟩ (.int .i64 ((parseP s).2 : Nat))) :=
          ((hBw.trans (hb2.mono hBw.size)).setCell (p := ⟨w.heap.size, 0, none⟩) (Nat.le_refl _) _).setCell (p := ⟨w.heap.size + 1, 0, none⟩) (by show w.heap.size ≤ w.heap.size + 1; omega) _
        generalize ((w2.setCell ⟨w.heap.size, 0, none⟩ (.slice A2 (parseP s).1.length cp2)).setCell ⟨w.heap.size + 1, 0, none⟩ (.int .i64 ((parseP s).2 : Nat))) = W3 at hD3 r0 r1 hown3 hBw3 ⊢
        refine ⟨by simp, .inl ⟨_, _, rfl, run_takeDeferred hD3, ?_⟩⟩
        have k0 := (boxed_put (o' := .deferred none) r0 hD3 rfl).cell
        have k1 := (boxed_put (o' := .deferred none) r1 hD3 rfl).cell
        exact ⟨.tuple #[.slice A2 (parseP s).1.length cp2, .int .i64 ((parseP s).2 : Nat)], by simp [results, Tryd.results24, go_sem, k0, k1], _, rfl, (ownsRow_putObj (own_le hown3 hBw.size) _ hD3 rfl), hBw3.trans (belowK_b (w := w) (Nat.le_refl _) W3 D _ _ (by have := hBw.size; have := (Array.getElem?_eq_some_iff.1 hK).1; omega) hD3 rfl rfl)⟩
      case stop =>
        rintro D pre W hD ⟨⟨code, br, be, Hcode⟩, hBw⟩ hK
        have hs0 := Hsz.out
        gi_wp2
        refine ⟨by simp, .inl ⟨_, _, rfl, run_takeDeferred hK, ?_⟩⟩
        have k0 := (boxed_put (o' := .deferred none) br hK rfl).cell
        have k1 := (boxed_put (o' := .deferred none) be hK rfl).cell
        refine ⟨.tuple #[.slice none 0 0, .int .i64 (code : Nat)], by simp [results, Tryd.results24, go_sem, k0, k1], _, by rw [Hcode.out], ?_, hBw.trans (belowK_b (w := w) (Nat.le_refl _) W D _ _ (by omega) hK rfl rfl)⟩
        rw [Hcode.out]
        exact World.ownsRow_nil _ _ _ _
end Go.Proofs.YtbadohcphadjfaaDoor
