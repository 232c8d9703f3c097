/- Several texts in one: ItGet2. -/
import Derived.Test.YtocdhnlffemnhaaQa11
import Derived.Test.YtocdhnlffemnhaaQa12
/- Layer 4: items read back, as plain functions: put, cut, any bytes. No program is named here. -/
namespace Go.Proofs.Ytocdhnlffemnhaa
open Go.RowKit

theorem normI_N (x : It) : itemN (normI x) = itemN x := by
  unfold normI itemN
  by_cases h : x.g = true
  · rw [if_pos h]; simp only [if_true, h]; rfl
  · have h2 : x.g = false := by simpa using h
    rw [if_neg h]; simp only [h2]; rfl
theorem normI_g (x : It) : (normI x).g = x.g := by
  unfold normI
  by_cases h : x.g = true
  · rw [if_pos h, h]
  · have h2 : x.g = false := by simpa using h
    rw [if_neg h, h2]
theorem normI_eq (x y : It) : sameI x y = true ↔ normI x = normI y := by
  unfold sameI
  by_cases h : x.g = y.g
  · rw [if_neg (by simp [h])]
    by_cases hg : x.g = true
    · have hy : y.g = true := by rw [← h]; exact hg
      rw [if_pos hg]
      unfold sameG normI
      rw [if_pos hg, if_pos hy, decide_eq_true_eq]
      simp
    · have hy : ¬ y.g = true := by rw [← h]; exact hg
      rw [if_neg hg]
      unfold sameEv normI
      rw [if_neg hg, if_neg hy, decide_eq_true_eq]
      simp only [It.mk.injEq, true_and, and_true]
      constructor
      · rintro ⟨a, b, c, d, e, f, g, i, j⟩; exact ⟨a, b, c, d, j, e, f, g, i⟩
      · rintro ⟨a, b, c, d, j, e, f, g, i⟩; exact ⟨a, b, c, d, e, f, g, i, j⟩
  · rw [if_pos (by simp [h])]
    constructor
    · intro e; cases e
    · intro e
      have := congrArg It.g e
      rw [normI_g, normI_g] at this
      exact absurd this h
theorem sameI_refl (x : It) : sameI x x = true := (normI_eq x x).2 rfl
theorem normI_norm (x : It) : normI (normI x) = normI x := by
  have h := normI_g x
  by_cases hg : x.g = true
  · have e : normI x = ⟨true, 0, 0, 0, ⟨#[]⟩, [], 0, 0, 0, 0, x.ga, x.gf, x.gt⟩ := by unfold normI; rw [if_pos hg]
    rw [e]; rfl
  · have e : normI x = ⟨false, x.o, x.q, x.t, x.r, x.l, x.s, x.p, x.v, x.w, 0, 0, 0⟩ := by unfold normI; rw [if_neg hg]
    rw [e]; rfl
theorem itemB_norm (x : It) : itemB (normI x) = itemB x := by
  unfold itemB normI
  by_cases hg : x.g = true
  · simp only [if_pos hg, if_true]; rfl
  · simp only [if_neg hg]; rfl

section
variable {mr mc mk mv : Nat} {x : It}
theorem itR_p (hx : OkI x) (hf : x.g = false → FitI mr mc mk mv x) : Puts2 (itR mr mc mk mv) (itemB x) (normI x) := by
  rw [itemB_right]
  refine (rB_p x.g).bnd ?_
  unfold normI
  cases hg : x.g with
  | true => exact gapR_p hx
  | false => exact evR_p hx (hf hg)
theorem evR_c (hx : OkI x) (hf : FitI mr mc mk mv x) : Cuts (evR mr mc mk mv) (evB x) := by
  rw [evB_right]
  exact (rByte_c x.o).bnd (rByte_p x.o) ((rU_c hx.q).bnd (rU_p hx.q) ((rU_c hx.t).bnd (rU_p hx.t) ((rT_c hf.r2 hf.r).bnd (rT_p hf.r2 hf.r) ((rLabs_c hf.c hf.c2 hf.l).bnd (rLabs_p hf.c hf.c2 hf.l) ((rByte_c x.s).bnd (rByte_p x.s) ((rByte_c x.p).bnd (rByte_p x.p) ((rI_c hx.v0 hx.v1).bnd (rI_p hx.v0 hx.v1) ((rByte_c x.w).bnd (rByte_p x.w) (Cuts.ret _) fun _ => Sticks.ret _)
    fun _ => rByte_s.bnd fun _ => Sticks.ret _) fun _ => rI_s.bnd fun _ => rByte_s.bnd fun _ => Sticks.ret _) fun _ => rByte_s.bnd fun _ => rI_s.bnd fun _ => rByte_s.bnd fun _ => Sticks.ret _) fun _ => rByte_s.bnd fun _ => rByte_s.bnd fun _ => rI_s.bnd fun _ => rByte_s.bnd fun _ => Sticks.ret _)
    fun _ => (rLabs_s mc mk mv).bnd fun _ => rByte_s.bnd fun _ => rByte_s.bnd fun _ => rI_s.bnd fun _ => rByte_s.bnd fun _ => Sticks.ret _) fun _ => (rT_s mr).bnd fun _ => (rLabs_s mc mk mv).bnd fun _ => rByte_s.bnd fun _ => rByte_s.bnd fun _ => rI_s.bnd fun _ => rByte_s.bnd fun _ => Sticks.ret _)
    fun _ => rU_s.bnd fun _ => (rT_s mr).bnd fun _ => (rLabs_s mc mk mv).bnd fun _ => rByte_s.bnd fun _ => rByte_s.bnd fun _ => rI_s.bnd fun _ => rByte_s.bnd fun _ => Sticks.ret _) fun _ => rU_s.bnd fun _ => rU_s.bnd fun _ => (rT_s mr).bnd fun _ => (rLabs_s mc mk mv).bnd fun _ => rByte_s.bnd fun _ => rByte_s.bnd fun _ => rI_s.bnd fun _ => rByte_s.bnd fun _ => Sticks.ret _
theorem gapR_c (hx : OkI x) : Cuts gapR (gapB x) := by
  rw [gapB_right]
  exact (rByte_c x.ga).bnd (rByte_p x.ga) ((rU_c hx.gf).bnd (rU_p hx.gf) ((rU_c hx.gt).bnd (rU_p hx.gt) (Cuts.ret _) fun _ => Sticks.ret _) fun _ => rU_s.bnd fun _ => Sticks.ret _) fun _ => rU_s.bnd fun _ => rU_s.bnd fun _ => Sticks.ret _
theorem itR_c (hx : OkI x) (hf : x.g = false → FitI mr mc mk mv x) : Cuts (itR mr mc mk mv) (itemB x) := by
  rw [itemB_right]
  refine (rB_c x.g).bnd (rB_p x.g) ?_ fun g => itG_s mr mc mk mv g
  cases hg : x.g with
  | true => exact gapR_c hx
  | false => exact evR_c hx (hf hg)
end

/-- two items with the same bytes are the same -/
theorem itemB_inj {x y : It} (hx : OkI x) (hy : OkI y) (fx : x.g = false → FitI 1048576 1048576 1048576 1048576 x) (fy : y.g = false → FitI 1048576 1048576 1048576 1048576 y) (h : itemB x = itemB y) : normI x = normI y := by
  have h1 := itR_p hx fx []
  have h2 := itR_p hy fy []
  rw [h] at h1
  exact congrArg (·.1) (h1.symm.trans h2)
theorem sameI_bytes {x y : It} (hx : OkI x) (hy : OkI y) (fx : x.g = false → FitI 1048576 1048576 1048576 1048576 x) (fy : y.g = false → FitI 1048576 1048576 1048576 1048576 y) : sameI x y = decide (itemB x = itemB y) := by
  rw [Bool.eq_iff_iff, decide_eq_true_eq, normI_eq]
  constructor
  · intro h
    rw [← itemB_norm x, ← itemB_norm y, h]
  · exact itemB_inj hx hy fx fy

theorem keyB_size {s : ByteArray} (h : keyB s = true) : s.size ≤ 8 := by
  unfold keyB fitsB at h
  simp only [Bool.and_eq_true, decide_eq_true_eq] at h
  exact h.1.2
theorem valueB_size {s : ByteArray} (h : valueB s = true) : s.size ≤ 16 := by
  unfold valueB fitsB at h
  simp only [Bool.and_eq_true, decide_eq_true_eq] at h
  exact h.1.2
theorem nameB_size {s : ByteArray} (h : nameB s = true) : s.size ≤ 12 := by
  unfold nameB fitsB at h
  simp only [Bool.and_eq_true, decide_eq_true_eq] at h
  exact h.1.1.2
theorem chk_ok : ∀ {l : List Pr} {q : Option Pr}, chk q l = 0 → ∀ p ∈ l, keyB p.1 = true ∧ valueB p.2 = true
  | [], _, _, p, hp => by cases hp
  | x :: r, q, h, p, hp => by
    have hk : (keyB x.1 && valueB x.2) = true ∧ chk (some x) r = 0 := by
      cases q with
      | none =>
        rw [chk] at h
        split at h
        · exact ⟨by assumption, h⟩
        · cases h
      | some q =>
        rw [chk] at h
        split at h
        · split at h
          · cases h
          · split at h
            · cases h
            · exact ⟨by assumption, h⟩
        · cases h
    rcases List.mem_cons.1 hp with rfl | hp
    · simpa using hk.1
    · exact chk_ok hk.2 p hp
/-- an item that may be one fits -/
theorem fit_right {x : It} (h : itemN x = 0) (hg : x.g = false) : FitI 12 8 8 16 x := by
  unfold itemN at h
  rw [if_neg (by rw [hg]; decide)] at h
  unfold evN at h
  split at h
  · cases h
  split at h
  · cases h
  rename_i hn
  split at h
  · cases h
  split at h
  · cases h
  have hn2 : nameB x.r = true := by simpa using hn
  unfold check at h
  split at h
  · cases h
  rename_i hl
  have hs := nameB_size hn2
  refine ⟨hs, by omega, by omega, by omega, fun p hp => ?_⟩
  obtain ⟨h1, h2⟩ := chk_ok h p hp
  have h3 := keyB_size h1
  have h4 := valueB_size h2
  exact ⟨⟨h3, h4⟩, by omega, by omega⟩
theorem FitI.wide {x : It} {a b c d : Nat} (h : FitI a b c d x) : FitI 1048576 1048576 1048576 1048576 x :=
  ⟨h.r2, h.r2, h.c2, h.c2, fun p hp => ⟨(h.l p hp).2, (h.l p hp).2⟩⟩
theorem chkR_p {x : It} (h : itemN x = 0) : Puts2 (chkR x) [] x := fun rest => by
  show chkR x (rest, 0) = _
  simp [chkR, h]
theorem takeR_p {x : It} (hx : OkI x) (h : itemN x = 0) : Puts2 takeR (itemB x) (normI x) := by
  have k := (itR_p hx (fit_right h)).bnd (G := chkR) (chkR_p (by rw [normI_N, h]))
  rwa [List.append_nil] at k
theorem takeR_c {x : It} (hx : OkI x) (h : itemN x = 0) : Cuts takeR (itemB x) := by
  have k := (itR_c hx (fit_right h)).bnd (itR_p hx (fit_right h)) (G := chkR) (B2 := []) (fun K hK => absurd hK (by simp)) chkR_s
  rwa [List.append_nil] at k

/-! what is read was put -/
theorem getU_back {l l' : List Nat} {n : Nat} (hok : OkB l) (h : getU 0 0 l = (n, l', 0)) : l = leb n ++ l' := by
  rcases getU_end l 0 0 hok (by omega) with ⟨_, h2⟩ | ⟨pre, c, t, rfl, _, h3⟩
  · rw [h2] at h
    exact absurd (congrArg (·.2.2) h) (show ¬ (3 : Nat) = 0 by decide)
  · rcases h3 with ⟨_, _, e⟩ | ⟨_, _, _, e⟩ | ⟨_, _, m, e, _, k⟩
    · rw [e] at h; exact absurd (congrArg (·.2.2) h) (show ¬ (6 : Nat) = 0 by decide)
    · rw [e] at h; exact absurd (congrArg (·.2.2) h) (show ¬ (2 : Nat) = 0 by decide)
    · rw [e] at h
      have h1 : 0 + 128 ^ 0 * m = n := congrArg (·.1) h
      have h2 : t = l' := congrArg (·.2.1) h
      subst h2
      obtain rfl : m = n := by omega
      rw [k, List.append_assoc]; rfl
theorem rByte_b {l l' : List Nat} {c : Nat} (h : rByte (l, 0) = (c, (l', 0))) : l = [c] ++ l' := by
  cases l with
  | nil => exact absurd (congrArg (·.2.2) h) (show ¬ (3 : Nat) = 0 by decide)
  | cons d t =>
    have h1 : d = c := congrArg (·.1) h
    have h2 : t = l' := congrArg (·.2.1) h
    rw [h1, h2]; rfl
theorem rU_b {l l' : List Nat} {n : Nat} (hok : OkB l) (h : rU (l, 0) = (n, (l', 0))) : l = leb n ++ l' ∧ n < 18446744073709551616 := by
  have h1 : getU 0 0 l = (n, l', 0) := h
  refine ⟨getU_back hok h1, ?_⟩
  have := getU_lt l 0 0 hok (by omega) (by decide)
  rw [h1] at this
  exact this
theorem zig_zag {n : Nat} : zig (zag n) = n := by
  unfold zig zag
  by_cases h : n % 2 = 1
  · rw [if_pos h, if_pos (by omega)]; omega
  · rw [if_neg h, if_neg (by omega)]; omega
theorem zag_bounds {n : Nat} (h : n < 18446744073709551616) : -9223372036854775808 ≤ zag n ∧ zag n < 9223372036854775808 := by
  unfold zag
  split <;> omega
theorem rI_b {l l' : List Nat} {z : Int} (hok : OkB l) (h : rI (l, 0) = (z, (l', 0))) : l = leb (zig z) ++ l' ∧ -9223372036854775808 ≤ z ∧ z < 9223372036854775808 := by
  obtain ⟨n, l1, h1, h2⟩ := bnd_ok h (fun _ => Sticks.ret _)
  have e1 : zag n = z := congrArg (·.1) h2
  have e2 : l1 = l' := congrArg (·.2.1) h2
  obtain ⟨h3, h4⟩ := rU_b hok h1
  rw [← e1, ← e2, zig_zag]
  exact ⟨h3, zag_bounds h4⟩
theorem rB_b {l l' : List Nat} {g : Bool} (h : rB (l, 0) = (g, (l', 0))) : l = [if g then 1 else 0] ++ l' := by
  have h0 : getB l = (g, l', 0) := h
  cases l with
  | nil => exact absurd (congrArg (·.2.2) h0) (show ¬ (3 : Nat) = 0 by decide)
  | cons c t =>
    rw [getB] at h0
    split at h0
    · exact absurd (congrArg (·.2.2) h0) (show ¬ (2 : Nat) = 0 by decide)
    · have h1 : (c == 1) = g := congrArg (·.1) h0
      have h2 : t = l' := congrArg (·.2.1) h0
      rw [← h1, ← h2]
      by_cases hc : c = 1
      · subst hc; rfl
      · obtain rfl : c = 0 := by omega
        rfl
theorem bytesN_strB {l : List Nat} (h : OkB l) : bytesN (strB l) = l := by
  unfold bytesN strB
  simp only [List.map_map]
  have e : ∀ x ∈ l, (UInt8.toNat ∘ UInt8.ofNat) x = x := fun x hx => by
    show (UInt8.ofNat x).toNat = x
    rw [UInt8.toNat_ofNat']
    have := h x hx
    omega
  rw [List.map_congr_left e]
  simp
theorem strB_size (l : List Nat) : (strB l).size = l.length := by simp [strB, ByteArray.size]
theorem rT_b {l l' : List Nat} {m : Nat} {s : ByteArray} (hok : OkB l) (h : rT m (l, 0) = (s, (l', 0))) : l = textB s ++ l' ∧ s.size ≤ m := by
  obtain ⟨t, l1, h1, h2⟩ := bnd_ok h (fun _ => Sticks.ret _)
  have e1 : strB t = s := congrArg (·.1) h2
  have e2 : l1 = l' := congrArg (·.2.1) h2
  subst e2
  have h0 : getT m l = (t, l1, 0) := h1
  unfold getT at h0
  split at h0
  · rename_i he
    exact absurd (congrArg (·.2.2) h0) he
  rename_i he
  split at h0
  · exact absurd (congrArg (·.2.2) h0) (show ¬ (4 : Nat) = 0 by decide)
  rename_i hm
  split at h0
  · exact absurd (congrArg (·.2.2) h0) (show ¬ (3 : Nat) = 0 by decide)
  rename_i hk
  have he0 : (getU 0 0 l).2.2 = 0 := by omega
  obtain ⟨n, u, hR⟩ : ∃ n u, getU 0 0 l = (n, u, 0) := ⟨(getU 0 0 l).1, (getU 0 0 l).2.1, Prod.ext rfl (Prod.ext rfl he0)⟩
  rw [hR] at h0 hm hk
  simp only at h0 hm hk
  have hb := getU_back hok hR
  have t1 : u.take n = t := congrArg (·.1) h0
  have t2 : u.drop n = l1 := congrArg (·.2.1) h0
  have hou : OkB u := fun x hx => hok x (by rw [hb]; exact List.mem_append_right _ hx)
  have hot : OkB t := by rw [← t1]; exact hou.take n
  have hl : t.length = n := by rw [← t1, List.length_take]; omega
  rw [← e1]
  refine ⟨?_, by rw [strB_size, hl]; omega⟩
  unfold textB
  rw [strB_size, hl, bytesN_strB hot, List.append_assoc, ← t1, ← t2, List.take_append_drop]
  exact hb
theorem rC_b {l l' : List Nat} {top n : Nat} (hok : OkB l) (h : rC top (l, 0) = (n, (l', 0))) : l = leb n ++ l' ∧ n ≤ top := by
  have h0 : getC top l = (n, l', 0) := h
  unfold getC at h0
  split at h0
  · rename_i he
    exact absurd (congrArg (·.2.2) h0) he
  rename_i he
  split at h0
  · exact absurd (congrArg (·.2.2) h0) (show ¬ (6 : Nat) = 0 by decide)
  rename_i hm
  have he0 : (getU 0 0 l).2.2 = 0 := by omega
  have h1 : (getU 0 0 l).1 = n := congrArg (·.1) h0
  have h2 : (getU 0 0 l).2.1 = l' := congrArg (·.2.1) h0
  exact ⟨getU_back hok (Prod.ext h1 (Prod.ext h2 he0)), by omega⟩
theorem OkB.behind {a b : List Nat} (h : OkB (a ++ b)) : OkB b := fun x hx => h x (List.mem_append_right _ hx)
theorem rL_b {mk mv : Nat} (hmk : mk ≤ 1048576) (hmv : mv ≤ 1048576) : ∀ (k : Nat) {l l' : List Nat} {ps : List Pr}, OkB l → rL mk mv k (l, 0) = (ps, (l', 0)) → ps.length = k ∧ l = labsB ps ++ l' ∧ FitL mk mv ps
  | 0, l, l', ps, _, h => by
    have h1 : [] = ps := congrArg (·.1) h
    have h2 : l = l' := congrArg (·.2.1) h
    subst h1; subst h2
    exact ⟨rfl, rfl, fun p hp => by cases hp⟩
  | k + 1, l, l', ps, hok, h => by
    rw [rL] at h
    obtain ⟨a, l1, h1, k1⟩ := bnd_ok h (fun _ => (rT_s mv).bnd fun _ => (rL_s mk mv k).bnd fun _ => Sticks.ret _)
    clear h
    try dsimp only at k1
    obtain ⟨rfl, ha⟩ := rT_b hok h1
    obtain ⟨b, l2, h2, k2⟩ := bnd_ok k1 (fun _ => (rL_s mk mv k).bnd fun _ => Sticks.ret _)
    clear k1
    try dsimp only at k2
    obtain ⟨rfl, hb⟩ := rT_b hok.behind h2
    obtain ⟨r, l3, h3, k3⟩ := bnd_ok k2 (fun _ => Sticks.ret _)
    clear k2
    obtain ⟨hl, rfl, hf⟩ := rL_b hmk hmv k hok.behind.behind h3
    have e1 : (a, b) :: r = ps := congrArg (·.1) k3
    have e2 : l3 = l' := congrArg (·.2.1) k3
    subst e1; subst e2
    refine ⟨by simp [hl], by simp [labsB], fun p hp => ?_⟩
    rcases List.mem_cons.1 hp with rfl | hp
    · exact ⟨⟨ha, hb⟩, Nat.le_trans ha hmk, Nat.le_trans hb hmv⟩
    · exact hf p hp
theorem evR_b {l l' : List Nat} {z : It} (hok : OkB l) (h : evR 12 8 8 16 (l, 0) = (z, (l', 0))) : z.g = false ∧ l = evB z ++ l' ∧ OkI z ∧ FitI 12 8 8 16 z := by
  unfold evR at h
  obtain ⟨o, l1, h1, k1⟩ := bnd_ok h (fun _ => rU_s.bnd fun _ => rU_s.bnd fun _ => (rT_s 12).bnd fun _ => (rLabs_s 8 8 16).bnd fun _ => rByte_s.bnd fun _ => rByte_s.bnd fun _ => rI_s.bnd fun _ => rByte_s.bnd fun _ => Sticks.ret _)
  clear h
  try dsimp only at k1
  have e1 := rByte_b h1
  subst e1
  have ok1 := hok.behind
  obtain ⟨q, l2, h2, k2⟩ := bnd_ok k1 (fun _ => rU_s.bnd fun _ => (rT_s 12).bnd fun _ => (rLabs_s 8 8 16).bnd fun _ => rByte_s.bnd fun _ => rByte_s.bnd fun _ => rI_s.bnd fun _ => rByte_s.bnd fun _ => Sticks.ret _)
  clear k1
  try dsimp only at k2
  obtain ⟨rfl, b2⟩ := rU_b ok1 h2
  have ok2 := ok1.behind
  obtain ⟨t, l3, h3, k3⟩ := bnd_ok k2 (fun _ => (rT_s 12).bnd fun _ => (rLabs_s 8 8 16).bnd fun _ => rByte_s.bnd fun _ => rByte_s.bnd fun _ => rI_s.bnd fun _ => rByte_s.bnd fun _ => Sticks.ret _)
  clear k2
  try dsimp only at k3
  obtain ⟨rfl, b3⟩ := rU_b ok2 h3
  have ok3 := ok2.behind
  obtain ⟨r, l4, h4, k4⟩ := bnd_ok k3 (fun _ => (rLabs_s 8 8 16).bnd fun _ => rByte_s.bnd fun _ => rByte_s.bnd fun _ => rI_s.bnd fun _ => rByte_s.bnd fun _ => Sticks.ret _)
  clear k3
  try dsimp only at k4
  obtain ⟨rfl, b4⟩ := rT_b ok3 h4
  have ok4 := ok3.behind
  obtain ⟨ps, l5, h5, k5⟩ := bnd_ok k4 (fun _ => rByte_s.bnd fun _ => rByte_s.bnd fun _ => rI_s.bnd fun _ => rByte_s.bnd fun _ => Sticks.ret _)
  clear k4
  try dsimp only at k5
  obtain ⟨k, lk, hk, h5'⟩ := bnd_ok h5 (fun n => rL_s 8 16 n)
  obtain ⟨rfl, bk⟩ := rC_b ok4 hk
  obtain ⟨hlen, rfl, b5⟩ := rL_b (by decide) (by decide) k ok4.behind h5'
  have ok5 := ok4.behind.behind
  obtain ⟨s, l6, h6, k6⟩ := bnd_ok k5 (fun _ => rByte_s.bnd fun _ => rI_s.bnd fun _ => rByte_s.bnd fun _ => Sticks.ret _)
  clear k5
  try dsimp only at k6
  have e6 := rByte_b h6
  subst e6
  have ok6 := ok5.behind
  obtain ⟨p, l7, h7, k7⟩ := bnd_ok k6 (fun _ => rI_s.bnd fun _ => rByte_s.bnd fun _ => Sticks.ret _)
  clear k6
  try dsimp only at k7
  have e7 := rByte_b h7
  subst e7
  have ok7 := ok6.behind
  obtain ⟨v, l8, h8, k8⟩ := bnd_ok k7 (fun _ => rByte_s.bnd fun _ => Sticks.ret _)
  clear k7
  try dsimp only at k8
  obtain ⟨rfl, b8, b8'⟩ := rI_b ok7 h8
  have ok8 := ok7.behind
  obtain ⟨w, l9, h9, k9⟩ := bnd_ok k8 (fun _ => Sticks.ret _)
  clear k8
  have e9 := rByte_b h9
  subst e9
  have e1 : (⟨false, o, q, t, r, ps, s, p, v, w, 0, 0, 0⟩ : It) = z := congrArg (·.1) k9
  have e2 : l9 = l' := congrArg (·.2.1) k9
  subst e1; subst e2
  have bo : o < 256 := hok o (by simp)
  have bs : s < 256 := ok5 s (by simp)
  have bp : p < 256 := ok6 p (by simp)
  have bw : w < 256 := ok8 w (by simp)
  refine ⟨rfl, ?_, ⟨bo, b2, b3, by show r.size ≤ _; unfold maxLen; omega, fun i pr hi => ?_, bs, bp, b8, b8', bw, by simp, by simp, by simp⟩, ⟨b4, by show r.size ≤ _; omega, by show ps.length ≤ _; omega, by show ps.length ≤ _; omega, b5⟩⟩
  · rw [evB_right]
    simp only [hlen, List.append_assoc, List.nil_append]
  · obtain ⟨_, hp⟩ := b5 pr (List.mem_iff_getElem?.2 ⟨i, hi⟩)
    unfold maxLen
    omega
theorem gapR_b {l l' : List Nat} {z : It} (hok : OkB l) (h : gapR (l, 0) = (z, (l', 0))) : z.g = true ∧ l = gapB z ++ l' ∧ OkI z := by
  unfold gapR at h
  obtain ⟨o, l1, h1, k1⟩ := bnd_ok h (fun _ => rU_s.bnd fun _ => rU_s.bnd fun _ => Sticks.ret _)
  clear h
  try dsimp only at k1
  have e1 := rByte_b h1
  subst e1
  have ok1 := hok.behind
  obtain ⟨q, l2, h2, k2⟩ := bnd_ok k1 (fun _ => rU_s.bnd fun _ => Sticks.ret _)
  clear k1
  try dsimp only at k2
  obtain ⟨rfl, b2⟩ := rU_b ok1 h2
  have ok2 := ok1.behind
  obtain ⟨t, l3, h3, k3⟩ := bnd_ok k2 (fun _ => Sticks.ret _)
  clear k2
  try dsimp only at k3
  obtain ⟨rfl, b3⟩ := rU_b ok2 h3
  have e1 : (⟨true, 0, 0, 0, ⟨#[]⟩, [], 0, 0, 0, 0, o, q, t⟩ : It) = z := congrArg (·.1) k3
  have e2 : l3 = l' := congrArg (·.2.1) k3
  subst e1; subst e2
  have bo : o < 256 := hok o (by simp)
  refine ⟨rfl, ?_, ⟨by simp, by simp, by simp, (show (⟨#[]⟩ : ByteArray).size ≤ _ by decide), (fun i p h => by simp at h), by simp, by simp, by simp, by simp, by simp, bo, b2, b3⟩⟩
  rw [gapB_right]
  simp only [List.append_assoc, List.nil_append]
theorem takeR_b {l l' : List Nat} {z : It} (hok : OkB l) (h : takeR (l, 0) = (z, (l', 0))) : itemN z = 0 ∧ l = itemB z ++ l' ∧ OkI z ∧ (z.g = false → FitI 12 8 8 16 z) := by
  obtain ⟨a, l1, h1, h2⟩ := bnd_ok h chkR_s
  have h3 : (if itemN a = 0 then (a, (l1, 0)) else (zeroI, ([], itemN a))) = (z, (l', 0)) := by
    have e : chkR a (l1, 0) = if itemN a = 0 then (a, (l1, 0)) else (zeroI, ([], itemN a)) := by simp [chkR]
    rw [← e]; exact h2
  by_cases hn : itemN a = 0
  · rw [if_pos hn] at h3
    have e1 : a = z := congrArg (·.1) h3
    have e2 : l1 = l' := congrArg (·.2.1) h3
    subst e1; subst e2
    obtain ⟨g, l2, h4, h5⟩ := bnd_ok h1 (itG_s 12 8 8 16)
    have e := rB_b h4
    subst e
    have ok := hok.behind
    cases g with
    | true =>
      obtain ⟨hg, rfl, hx⟩ := gapR_b ok h5
      refine ⟨hn, ?_, hx, fun h => by rw [hg] at h; cases h⟩
      rw [itemB_right, hg]; simp
    | false =>
      obtain ⟨hg, rfl, hx, hf⟩ := evR_b ok h5
      refine ⟨hn, ?_, hx, fun _ => hf⟩
      rw [itemB_right, hg]; simp
  · rw [if_neg hn] at h3
    exact absurd (congrArg (·.2.2) h3) hn
end Go.Proofs.Ytocdhnlffemnhaa
