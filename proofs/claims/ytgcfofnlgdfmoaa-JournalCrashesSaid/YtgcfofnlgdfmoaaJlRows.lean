/- Layer 7: a list of records in memory: a row of slices, each of them bytes. -/
import Derived.Test.YtgcfofnlgdfmoaaJlTake
import Derived.Test.YtgcfofnlgdfmoaaDkMem
namespace Go.Proofs.Ytgcfofnlgdfmoaa
open Go.RowKit

def rowC (x : Option Addr × Nat × Nat) : Value := .slice x.1 x.2.1 x.2.2
theorem Try.infoSl : (Try.prog.info? 37).map (fun i => (i.zero, i.size, i.bytes)) = some (some (.slice none 0 0), 1, 24) := by kernel_rfl
theorem cell5 (W : World) (cs : Array Value) (t : TypeId) (i : Nat) : (W.alloc (.cells cs t)).cell? ⟨W.heap.size, i, none⟩ = cs[i]? := by
  have e : (W.alloc (.cells cs t)).heap[W.heap.size]? = some (.cells cs t) := by
    show (W.heap.push _)[W.heap.size]? = _
    exact Array.getElem?_push_size
  simp only [World.cell?, e]
  rfl
/-- an element: bytes of a block that is neither the table's nor the row's -/
structure ElB (w : World) (base g : Nat) (v : Value) (x : Option Addr × Nat × Nat) (l : List Nat) : Prop where
  n : x.2.1 = l.length
  nil : x.1 = none → x.2.1 = 0
  rd : RdB w w.heap.size x.1 l
  ok : OkB l
  far : ∀ a, x.1 = some a → 0 < l.length → base ≤ a.block ∧ a.block ≠ g ∧ v.ownBlock ≠ some a.block
structure RsX (w : World) (base g : Nat) (v : Value) (X : List (Option Addr × Nat × Nat)) (L : List (List Nat)) : Prop where
  own : w.ownsRow base 37 1 v L.length (X.map rowC)
  len : X.length = L.length
  each : ∀ (i : Nat) x l, X[i]? = some x → L[i]? = some l → ElB w base g v x l
  vg : v.ownBlock ≠ some g
/-- the value is a row of these records, new since base -/
def Rs (w : World) (base g : Nat) (v : Value) (L : List (List Nat)) : Prop := ∃ X, RsX w base g v X L
section
variable {w w' : World} {base g : Nat} {v v' : Value} {x : Option Addr × Nat × Nat} {l : List Nat} {L : List (List Nat)}
theorem ElB.grown (h : ElB w base g v x l) {row : Option Nat} (hg : w.grownBy w' row) (hr : ∀ k, row = some k → (k = g ∨ v.ownBlock = some k)) : ElB w' base g v x l :=
  ⟨h.n, h.nil, fun h0 => by
    obtain ⟨b, o, e, hb, hc⟩ := h.rd h0
    obtain ⟨_, f2, f3⟩ := h.far _ e h0
    refine ⟨b, o, e, Nat.lt_of_lt_of_le hb hg.size, fun i y hy => ?_⟩
    rw [World.cell?_of_block (w := w) (w' := w') (a := ⟨b, o + i, none⟩) (hg.block b hb (fun e2 => by
      rcases hr b e2.symm with h' | h'
      · exact f2 h'
      · exact f3 h'))]
    exact hc i y hy, h.ok, h.far⟩
theorem Rs.nil (w : World) (base g : Nat) : Rs w base g (.slice none 0 0) [] := ⟨[], World.ownsRow_nil _ _ _ _, rfl, fun i x l hx => by simp at hx, by simp [Value.ownBlock]⟩
theorem Rs.turned (h : Rs w base g v L) {P : Nat → Prop} (ht : TurnsIn w w' g P) : Rs w' base g v L := by
  obtain ⟨X, h⟩ := h
  refine ⟨X, h.own.kept ht.grown ?_, h.len, fun i x l hx hl => (h.each i x l hx hl).grown ht.grown (fun k hk => .inl (by injection hk with hk; exact hk.symm)), h.vg⟩
  cases hv : v.ownBlock with
  | none => exact .inl rfl
  | some k => exact .inr fun e => h.vg (by rw [hv, e])
theorem Rs.below (h : Rs w base g v L) (hb : Below w.heap.size w w') : Rs w' base g v L := by
  obtain ⟨X, h⟩ := h
  exact ⟨X, ownB_below h.own hb, h.len, fun i x l hx hl => (h.each i x l hx hl).grown (row := none) ⟨hb.os, hb.tape, hb.output, hb.size, fun k hk _ => hb.block k hk⟩ (fun k hk => by cases hk), h.vg⟩
theorem Rs.slice (h : Rs w base g v L) : ∃ A c, v = .slice A L.length c := by
  obtain ⟨X, h⟩ := h
  exact ownB_slice h.own
theorem Rs.only {T : Nat → Prop} (h : Rs w base g v L) (ho : Only T w w') (hT : ∀ i, T i → i < base ∨ i = g) (hg : g < base) : Rs w' base g v L := by
  obtain ⟨X, h⟩ := h
  refine ⟨X, ho.own h.own (fun k hk ht => ?_), h.len, fun i x l hx hl => ?_, h.vg⟩
  · have := (h.own.lt k hk).1
    rcases hT k ht with h' | h' <;> omega
  · have q := h.each i x l hx hl
    refine ⟨q.n, q.nil, (ho.rdB q.rd (Nat.le_refl _) (fun a ha h0 ht => ?_)).more ho.size, q.ok, q.far⟩
    have := (q.far a ha h0).1
    rcases hT _ ht with h' | h' <;> omega
/-- one record more -/
theorem RsX.app {A : Option Addr} {n c : Nat} (hg : g < w.heap.size) (hn : n = l.length) (hnil : A = none → n = 0) (hrd : RdB w w.heap.size A l) (hok : OkB l) (hfar : ∀ a, A = some a → 0 < l.length → base ≤ a.block ∧ a.block ≠ g ∧ v.ownBlock ≠ some a.block)
    {X : List (Option Addr × Nat × Nat)} (hX : RsX w base g v X L) (ho : w'.ownsRow base 37 1 v' (L.length + 1) (X.map rowC ++ [.slice A n c])) (hgr : w.grownBy w' v.ownBlock) (hb : v'.ownBlock = v.ownBlock ∨ v'.ownBlock = some w.heap.size) : RsX w' base g v' (X ++ [(A, n, c)]) (L ++ [l]) := by
  have far' : ∀ k, k < w.heap.size → v.ownBlock ≠ some k → v'.ownBlock ≠ some k := fun k hk hne e => by
    rcases hb with h' | h'
    · rw [h'] at e; exact hne e
    · rw [h'] at e; injection e with e; omega
  have lt : ∀ {A : Option Addr} {l : List Nat} {a : Addr}, RdB w w.heap.size A l → A = some a → 0 < l.length → a.block < w.heap.size := fun hr ha h0 => by
    obtain ⟨b, o, e, hb, _⟩ := hr h0
    rw [ha] at e
    injection e with e
    rw [e]; exact hb
  have el : ∀ {x : Option Addr × Nat × Nat} {l : List Nat}, ElB w base g v x l → ElB w' base g v' x l := fun q => by
    have q' := q.grown hgr (fun k hk => .inr hk)
    exact ⟨q'.n, q'.nil, q'.rd, q'.ok, fun a ha h0 => ⟨(q.far a ha h0).1, (q.far a ha h0).2.1, far' _ (lt q.rd ha h0) (q.far a ha h0).2.2⟩⟩
  refine ⟨?_, by simp [hX.len], fun i x l' hx hl => ?_, ?_⟩
  · rw [List.map_append, List.length_append]
    exact ho
  · by_cases hi : i < L.length
    · rw [List.getElem?_append_left (by rw [hX.len]; exact hi)] at hx
      rw [List.getElem?_append_left hi] at hl
      exact el (hX.each i x l' hx hl)
    · have hi2 := (List.getElem?_eq_some_iff.1 hl).1
      simp at hi2
      obtain rfl : i = L.length := by omega
      rw [List.getElem?_append_right (by rw [hX.len]; exact Nat.le_refl _), hX.len, Nat.sub_self] at hx
      rw [List.getElem?_append_right (Nat.le_refl _), Nat.sub_self] at hl
      simp at hx hl
      subst hx; subst hl
      exact el ⟨hn, hnil, hrd, hok, hfar⟩
  · exact far' _ hg hX.vg
theorem Rs.app {A : Option Addr} {n c : Nat} (_ : Rs w base g v L) (hg : g < w.heap.size) (hn : n = l.length) (hnil : A = none → n = 0) (hrd : RdB w w.heap.size A l) (hok : OkB l) (hfar : ∀ a, A = some a → 0 < l.length → base ≤ a.block ∧ a.block ≠ g ∧ v.ownBlock ≠ some a.block)
    {X : List (Option Addr × Nat × Nat)} (hX : RsX w base g v X L) (ho : w'.ownsRow base 37 1 v' (L.length + 1) (X.map rowC ++ [.slice A n c])) (hgr : w.grownBy w' v.ownBlock) (hb : v'.ownBlock = v.ownBlock ∨ v'.ownBlock = some w.heap.size) : Rs w' base g v' (L ++ [l]) :=
  ⟨_, RsX.app hg hn hnil hrd hok hfar hX ho hgr hb⟩
end
/-- the slice at A reads as these records -/
def RdL (w : World) (A : Option Addr) (L : List (List Nat)) : Prop :=
  0 < L.length → ∃ b o, A = some ⟨b, o, none⟩ ∧ b < w.heap.size ∧ ∀ (i : Nat) l, L[i]? = some l → ∃ Ai ci, w.cell? ⟨b, o + i, none⟩ = some (.slice Ai l.length ci) ∧ RdB w w.heap.size Ai l ∧ (Ai = none → l.length = 0) ∧ OkB l
theorem Rs.rdL {w : World} {base g : Nat} {A : Option Addr} {n c : Nat} {L : List (List Nat)} (h : Rs w base g (.slice A n c) L) : RdL w A L ∧ n = L.length := by
  obtain ⟨X, h⟩ := h
  obtain ⟨A', c', hv⟩ := ownB_slice h.own
  injection hv with h1 h2 h3
  subst h1; subst h2; subst h3
  refine ⟨fun h0 => ?_, rfl⟩
  obtain ⟨b, cap, hv, _, hlt⟩ := h.own.form (by omega)
  injection hv with hv
  subst hv
  refine ⟨b, 0, rfl, hlt, fun i l hl => ?_⟩
  have hi := (List.getElem?_eq_some_iff.1 hl).1
  obtain ⟨x, hx⟩ : ∃ x, X[i]? = some x := ⟨X[i]'(by rw [h.len]; exact hi), List.getElem?_eq_getElem _⟩
  have q := h.each i x l hx hl
  have hc := h.own.cells (g := b) rfl i (rowC x) (by rw [List.getElem?_map, hx]; rfl)
  rw [Addr.add_lit] at hc
  refine ⟨x.1, x.2.2, ?_, q.rd, fun e => by have := q.nil e; rw [← q.n]; exact this, q.ok⟩
  rw [← q.n]
  exact hc
theorem RdL.keep {w w' : World} {A : Option Addr} {L : List (List Nat)} (h : RdL w A L) (hb : Below w.heap.size w w') : RdL w' A L := fun h0 => by
  obtain ⟨b, o, e, hl, hc⟩ := h h0
  refine ⟨b, o, e, Nat.lt_of_lt_of_le hl hb.size, fun i l hi => ?_⟩
  obtain ⟨Ai, ci, h1, h2, h3, h4⟩ := hc i l hi
  exact ⟨Ai, ci, (hb.cell (p := ⟨b, o + i, none⟩) hl).trans h1, (h2.below hb).more hb.size, h3, h4⟩

set_option maxRecDepth 100000 in
set_option maxHeartbeats 1000000 in
theorem same7_any (A : Option Addr) (n c : Nat) (L : List (List Nat)) (A' : Option Addr) (m c' : Nat) (M : List (List Nat)) (w : World) (hn : n = L.length) (hm : m = M.length) (hr : RdL w A L) (hr' : RdL w A' M) (hnx : n ≤ 140737488351232) :
    Calls Try.prog 16 #[.slice A n c, .slice A' m c'] w fun e w' => e = .returned (.bool (decide (L = M))) ∧ Below w.heap.size w w' := by
  by_cases hlen : n = m
  · subst hlen
    have HR := Lib.hid hr
    have HR' := Lib.hid hr'
    have HN := Lib.hid hn
    have HM := Lib.hid hm
    have hz : ((n : Int) != (n : Int)) = false := by simp
    clear hr hr' hn hm
    go_enter Try.func16, Try.ntmps16
    go_wp2
    go_loopw [13] (fun iv wx => ∃ k : Nat, k ≤ n ∧ iv = .int .i64 k ∧ Hid (L.take k = M.take k) ∧ Hid (Below w.heap.size w wx)) (fun iv _ => n - (intOf iv).toNat)
    case atStart => exact ⟨0, Nat.zero_le _, rfl, by show _ = _; rw [List.take_zero, List.take_zero], Below.refl _ _⟩
    case round =>
      obtain ⟨k, hk, rfl, Hk, Hb⟩ := hrel
      by_cases hlt : k < n
      · have hkL : k < L.length := by rw [← HN.out]; exact hlt
        have hkM : k < M.length := by rw [← HM.out]; exact hlt
        obtain ⟨b, o, rfl, hbl, hc⟩ := HR.out (by omega)
        obtain ⟨b', o', rfl, hbl', hc'⟩ := HR'.out (by omega)
        obtain ⟨x, hx⟩ : ∃ x, x = L[k] := ⟨_, rfl⟩
        obtain ⟨y, hy⟩ : ∃ y, y = M[k] := ⟨_, rfl⟩
        have hLk : L[k]? = some x := by rw [hx]; exact List.getElem?_eq_getElem hkL
        have hMk : M[k]? = some y := by rw [hy]; exact List.getElem?_eq_getElem hkM
        obtain ⟨Ai, ci, c1, r1, n1, k1⟩ := hc k x hLk
        obtain ⟨Aj, cj, c2, r2, n2, k2⟩ := hc' k y hMk
        have e1 := (Hb.out.cell (p := ⟨b, o + k, none⟩) hbl).trans c1
        have e2 := (Hb.out.cell (p := ⟨b', o' + k, none⟩) hbl').trans c2
        have hcv1 := conv_any (w := wr.drew) (c := ci) ((r1.below Hb.out).below (w' := wr.drew) ((Below.refl _ _).drew)) rfl n1
        have hcv2 := conv_any (w := wr.drew) (c := cj) ((r2.below Hb.out).below (w' := wr.drew) ((Below.refl _ _).drew)) rfl n2
        have hse := strB_eq k1 k2
        have Hx := Lib.hid hLk
        have Hy := Lib.hid hMk
        clear hx hy hLk hMk c1 c2 r1 r2 n1 n2 k1 k2 hc hc' hkL hkM
        by_cases hxy : x = y
        · have hb1 : ((strB x).toList == (strB y).toList) = true := by rw [hse]; exact decide_eq_true hxy
          have hb2 : ((strB x).toList != (strB y).toList) = false := by rw [bne, hb1]; rfl
          have Hn : Hid (L.take (k + 1) = M.take (k + 1)) := by show _ = _; rw [List.take_add_one, List.take_add_one, Hk.out, Hx.out, Hy.out, hxy]
          clear hse hxy
          go_wp2
          go_region
          all_goals
            go_wp2
            go_roundw
            case rel => exact ⟨k + 1, by omega, by go_num, Hn.out, Hb.out.drew⟩
            case measure => simp [intOf]; omega
        · have hb1 : ((strB x).toList == (strB y).toList) = false := by rw [hse]; exact decide_eq_false hxy
          have hb2 : ((strB x).toList != (strB y).toList) = true := by rw [bne, hb1]; rfl
          have Hn : Hid (decide (L = M) = false) := decide_eq_false (fun e => hxy (by have h1 := Hx.out; rw [e, Hy.out] at h1; injection h1 with h1; exact h1.symm))
          clear hse hxy
          go_wp2
          go_region
          all_goals
            go_wp2
            go_ret
            exact ⟨by rw [Hn.out]; rfl, Hb.out.drew⟩
      · obtain rfl : k = n := by omega
        have hd0 : decide (k < k) = false := decide_eq_false (Nat.lt_irrefl _)
        have Hn : Hid (decide (L = M) = true) := decide_eq_true (by
          have h1 := Hk.out
          rwa [List.take_of_length_le (by rw [← HN.out]; exact Nat.le_refl _), List.take_of_length_le (by rw [← HM.out]; exact Nat.le_refl _)] at h1)
        go_wp2
        go_ret
        exact ⟨by rw [Hn.out]; rfl, Hb.out⟩
  · have hne : ((n : Int) != (m : Int)) = true := by rw [bne_iff_ne]; omega
    have hd : Hid (decide (L = M) = false) := decide_eq_false (fun e => hlen (by rw [hn, hm, e]))
    clear hr hr' hn hm hlen
    go_enter Try.func16, Try.ntmps16
    go_wp2
    go_ret
    exact ⟨by rw [hd.out]; rfl, Below.refl _ _⟩
end Go.Proofs.Ytgcfofnlgdfmoaa
