/- Layer 6: a crash. -/
import Derived.Test.YtgcfofnlgdfmoaaDkTorn
namespace Go.Proofs.Ytgcfofnlgdfmoaa
open Go.RowKit Go.Maps

theorem fileIs_bounds {w : World} {S : Nat → Prop} {g : Nat} {mo : Option Nat} {x : Ent} {A : Option Addr} {c : Nat} (h : FileIs w S g mo x) (hv : x.v = .slice A x.by_.length c) : (A = none → c = 0) ∧ x.by_.length ≤ c ∧ (∀ a, A = some a → a = ⟨a.block, 0, none⟩) := by
  have ho := h.own
  rw [hv] at ho
  rcases ho.2 with ⟨e1, e2⟩ | ⟨g', cap, cur, e1, _, _, h3, _⟩
  · injection e1 with e1 _ e3
    exact ⟨fun _ => e3, by omega, (fun a ha => by rw [e1] at ha; cases ha)⟩
  · injection e1 with e1 _ e3
    exact ⟨(fun h => by rw [e1] at h; cases h), by omega, (fun a ha => by rw [e1] at ha; injection ha with ha; rw [← ha])⟩
theorem ownBlock_slice (A : Option Addr) (n c n' c' : Nat) : (Value.slice A n c).ownBlock = (Value.slice A n' c').ownBlock := by cases A <;> rfl

theorem torn_any {S : Nat → Prop} {g : Nat} {mo : Option Nat} {x : Ent} (keep bit : Nat) (w : World) (h : FileIs w S g mo x) (hk : keep < 65536) :
    Calls Try.prog 45 #[x.val, .agg #[.int .u16 keep, .int .u16 bit]] w fun e w' => ∃ x' : Ent, e = .returned x'.val ∧ (∃ A n c, x'.v = .slice A n c) ∧ x'.fl = tornF x.fl keep bit ∧ FileIs w' S g mo x' ∧ x'.v.ownBlock = x.v.ownBlock ∧ Only (fun k => some k = x.v.ownBlock) w w' := by
  obtain ⟨A, c, hv⟩ := ownB_slice h.own
  obtain ⟨b1, b2, b3⟩ := fileIs_bounds h hv
  have hyl : min x.by_.length (x.syn + keep) ≤ x.by_.length := by omega
  have hsy := h.syn
  by_cases hp : x.syn < min x.by_.length (x.syn + keep) ∧ bit < 8
  · cases A with
    | none => have := b1 rfl; omega
    | some a =>
      have ha := b3 a rfl
      generalize hr : a.block = r at ha
      subst ha
      have ho := h.own
      rw [hv] at ho
      have hx : x.val = fileV (.slice (some ⟨r, 0, none⟩) x.by_.length c) x.syn := by unfold Ent.val; rw [hv]
      rw [hx]
      refine (torn_flip r x.by_.length c x.syn keep bit x.by_ w rfl ho h.syn h.max hk h.ok hp.2 hp.1).mono ?_
      rintro e w' ⟨rfl, k1, k2⟩
      have hfl : tornF x.fl keep bit = ⟨(x.by_.set (min x.by_.length (x.syn + keep) - 1) (x.by_.getD (min x.by_.length (x.syn + keep) - 1) 0 ^^^ 2 ^ bit)).take (min x.by_.length (x.syn + keep)), min x.by_.length (x.syn + keep)⟩ := by
        unfold tornF
        show Fl.mk (if x.syn < min x.by_.length (x.syn + keep) ∧ bit < 8 then _ else _) _ = _
        rw [if_pos hp]
        rfl
      generalize hy : min x.by_.length (x.syn + keep) = y at *
      have hlen : ((x.by_.set (y - 1) (x.by_.getD (y - 1) 0 ^^^ 2 ^ bit)).take y).length = y := by rw [List.length_take, List.length_set]; omega
      have hlt : y - 1 < x.by_.length := by omega
      have hb8 : x.by_.getD (y - 1) 0 ^^^ 2 ^ bit < 2 ^ 8 := by
        refine Nat.xor_lt_two_pow ?_ ?_
        · rw [List.getD_eq_getElem?_getD, List.getElem?_eq_getElem hlt]; exact h.ok _ (List.getElem_mem hlt)
        · exact Nat.pow_lt_pow_right (by omega) hp.2
      refine ⟨⟨.slice (some ⟨r, 0, none⟩) y c, (x.by_.set (y - 1) (x.by_.getD (y - 1) 0 ^^^ 2 ^ bit)).take y, y⟩, rfl, ⟨_, _, _, rfl⟩, hfl.symm, ⟨?_, ?_, ?_, ?_, ?_⟩, by rw [hv]; rfl, k2.mono (fun k hk => by rw [hk, hv]; rfl)⟩
      · have := ownsRow_take k1 hyl
        show World.ownsRow _ _ _ _ _ (List.length _) _
        rw [hlen]
        unfold cellsB at this ⊢
        rw [List.map_take]
        exact this
      · show y ≤ List.length _
        rw [hlen]; exact Nat.le_refl _
      · refine OkB.take (fun z hz => ?_) _
        rcases List.mem_or_eq_of_mem_set hz with hz | hz
        · exact h.ok z hz
        · rw [hz]; exact hb8
      · show List.length _ ≤ _
        rw [hlen]; have := h.max; omega
      · have := h.S
        rw [hv] at this
        exact this
  · have hp' : min x.by_.length (x.syn + keep) ≤ x.syn ∨ 8 ≤ bit := by
      by_cases h1 : x.syn < min x.by_.length (x.syn + keep)
      · exact .inr (by by_cases h2 : bit < 8; exact absurd ⟨h1, h2⟩ hp; omega)
      · exact .inl (by omega)
    have hx : x.val = fileV (.slice A x.by_.length c) x.syn := by unfold Ent.val; rw [hv]
    rw [hx]
    refine (torn_plain A x.by_.length c x.syn keep bit w b1 h.syn b2 h.max hk hp').mono ?_
    rintro e w' ⟨rfl, k1⟩
    have hfl : tornF x.fl keep bit = ⟨x.by_.take (min x.by_.length (x.syn + keep)), min x.by_.length (x.syn + keep)⟩ := by
      unfold tornF
      show Fl.mk (if x.syn < min x.by_.length (x.syn + keep) ∧ bit < 8 then _ else _) _ = _
      rw [if_neg hp]
      rfl
    generalize hy : min x.by_.length (x.syn + keep) = y at *
    have hlen : (x.by_.take y).length = y := by rw [List.length_take]; omega
    have h' := h.below k1
    refine ⟨⟨.slice A y c, x.by_.take y, y⟩, rfl, ⟨_, _, _, rfl⟩, hfl.symm, ⟨?_, ?_, ?_, ?_, ?_⟩, by rw [hv]; exact ownBlock_slice _ _ _ _ _, Only.of_below k1 _⟩
    · have ho := h'.own
      rw [hv] at ho
      have := ownsRow_take ho hyl
      show World.ownsRow _ _ _ _ _ (List.length _) _
      rw [hlen]
      unfold cellsB at this ⊢
      rw [List.map_take]
      exact this
    · show y ≤ List.length _
      rw [hlen]; exact Nat.le_refl _
    · exact h.ok.take _
    · show List.length _ ≤ _
      rw [hlen]; have := h.max; omega
    · have := h.S
      rw [hv, ownBlock_slice A x.by_.length c y c] at this
      exact this

section
variable {α : Type}
theorem rising_set {L : List (ByteArray × α)} (h : Rising L) {i : Nat} {s : ByteArray} {f : α} (hi : L[i]? = some (s, f)) (x : α) : Rising (L.set i (s, x)) := by
  have h1 : Rising L ↔ (L.map (·.1)).Pairwise fun a b => ltS a b = true := by unfold Rising; rw [List.pairwise_map]
  have h2 : Rising (L.set i (s, x)) ↔ ((L.set i (s, x)).map (·.1)).Pairwise fun a b => ltS a b = true := by unfold Rising; rw [List.pairwise_map]
  rw [h2]
  rw [h1] at h
  have : (L.set i (s, x)).map (·.1) = L.map (·.1) := by
    rw [List.map_set]
    apply List.ext_getElem?
    intro j
    rw [List.getElem?_set]
    split
    · rename_i e
      subst e
      rw [List.getElem?_map, hi]
      have := (List.getElem?_eq_some_iff.1 hi).1
      simp [this]
    · rfl
  rw [this]
  exact h
theorem put_set {L : List (ByteArray × α)} (h : Rising L) {i : Nat} {s : ByteArray} {f : α} (hi : L[i]? = some (s, f)) (x : α) : putP L s x = L.set i (s, x) := by
  have hil := (List.getElem?_eq_some_iff.1 hi).1
  refine rising_ext (rising_put h s x) (rising_set h hi x) (fun p => ?_)
  rw [mem_putP]
  constructor
  · rintro (rfl | ⟨h1, h2⟩)
    · exact List.mem_iff_getElem?.2 ⟨i, by rw [List.getElem?_set]; simp [hil]⟩
    · obtain ⟨j, hj⟩ := List.mem_iff_getElem?.1 h1
      refine List.mem_iff_getElem?.2 ⟨j, ?_⟩
      rw [List.getElem?_set, if_neg, hj]
      intro e
      subst e
      rw [hi] at hj
      injection hj with hj
      exact h2 (by rw [← hj])
  · intro hp
    obtain ⟨j, hj⟩ := List.mem_iff_getElem?.1 hp
    rw [List.getElem?_set] at hj
    by_cases hne : i = j
    · rw [if_pos hne, if_pos (by omega)] at hj
      injection hj with hj
      exact .inl hj.symm
    · rw [if_neg hne] at hj
      refine .inr ⟨List.mem_iff_getElem?.2 ⟨j, hj⟩, fun e => ?_⟩
      have hjl := (List.getElem?_eq_some_iff.1 hj).1
      rcases Nat.lt_or_gt_of_ne hne with hlt | hlt
      · have := List.pairwise_iff_getElem.1 h i j hil hjl hlt
        rw [(List.getElem?_eq_some_iff.1 hi).2, (List.getElem?_eq_some_iff.1 hj).2] at this
        exact ltS_ne this e.symm
      · have := List.pairwise_iff_getElem.1 h j i hjl hil hlt
        rw [(List.getElem?_eq_some_iff.1 hi).2, (List.getElem?_eq_some_iff.1 hj).2] at this
        exact ltS_ne this e
theorem find_at {L : List (ByteArray × α)} (h : Rising L) {i : Nat} {s : ByteArray} {f : α} (hi : L[i]? = some (s, f)) : findP L s = some f :=
  findP_mem h (List.mem_iff_getElem?.2 ⟨i, hi⟩)
end
/-- the i-th tear -/
def tearAt (ts : List (Nat × Nat)) (i : Nat) : Nat × Nat := ts.getD i (0, 0)
/-- files as the first k tears leave them -/
def crashK (L : List (ByteArray × Fl)) (ts : List (Nat × Nat)) : Nat → List (ByteArray × Fl)
  | 0 => L
  | k + 1 => match L[k]? with
    | some p => (crashK L ts k).set k (p.1, tornF p.2 (tearAt ts k).1 (tearAt ts k).2)
    | none => crashK L ts k
def crashL (L : List (ByteArray × Fl)) (ts : List (Nat × Nat)) : List (ByteArray × Fl) := crashK L ts L.length
theorem crashK_length (L : List (ByteArray × Fl)) (ts : List (Nat × Nat)) : ∀ k, (crashK L ts k).length = L.length
  | 0 => rfl
  | k + 1 => by
    unfold crashK
    split
    · rw [List.length_set]; exact crashK_length L ts k
    · exact crashK_length L ts k
theorem crashK_at (L : List (ByteArray × Fl)) (ts : List (Nat × Nat)) : ∀ (k i : Nat), (crashK L ts k)[i]? = if i < k then (L[i]?).map (fun p => (p.1, tornF p.2 (tearAt ts i).1 (tearAt ts i).2)) else L[i]?
  | 0, i => by simp [crashK]
  | k + 1, i => by
    have ih := crashK_at L ts k
    unfold crashK
    cases e : L[k]? with
    | none =>
      simp only [ih]
      by_cases h1 : i < k
      · simp [h1, Nat.lt_succ_of_lt h1]
      · by_cases h2 : i = k
        · subst h2; simp [e]
        · have h3 : ¬ i < k + 1 := by omega
          simp [h1, h3]
    | some p =>
      have hl := (List.getElem?_eq_some_iff.1 e).1
      simp only [List.getElem?_set, crashK_length]
      by_cases h2 : k = i
      · subst h2
        rw [if_pos rfl, if_pos hl, if_pos (Nat.lt_succ_self k), e]
        rfl
      · rw [if_neg h2, ih]
        by_cases h1 : i < k
        · rw [if_pos h1, if_pos (by omega)]
        · rw [if_neg h1, if_neg (by omega)]
end Go.Proofs.Ytgcfofnlgdfmoaa
