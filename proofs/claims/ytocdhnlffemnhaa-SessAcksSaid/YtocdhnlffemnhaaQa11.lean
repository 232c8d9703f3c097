/- Several texts in one: ItClone, ItGet. -/
import Derived.Test.YtocdhnlffemnhaaQa7
import Derived.Test.YtocdhnlffemnhaaQa8
/- Layer 4: item.Clone. -/
namespace Go.Proofs.Ytocdhnlffemnhaa
open Go.RowKit

set_option maxRecDepth 100000 in
set_option maxHeartbeats 1000000 in
theorem iclone_any (x : It) (A : Option Addr) (n c : Nat) (w : World) (hn : n = x.l.length) (hA : A = none → n = 0) (hm : n * 32 ≤ 140737488351232) (hr : RdP w w.heap.size A x.l) :
    Calls Try.prog 42 #[.agg #[.bool x.g, .int .u8 x.o, .int .u64 x.q, .int .u64 x.t, .string x.r, .slice A n c, .int .u8 x.s, .int .u8 x.p, .int .i64 x.v, .int .u8 x.w, .int .u8 x.ga, .int .u64 x.gf, .int .u64 x.gt]] w (ItRet x w) := by
  obtain ⟨W, hW⟩ : ∃ W, W = ((w.alloc (.cells #[.bool x.g, .int .u8 x.o, .int .u64 x.q, .int .u64 x.t, .string x.r, .slice A n c, .int .u8 x.s, .int .u8 x.p, .int .i64 x.v, .int .u8 x.w, .int .u8 x.ga, .int .u64 x.gf, .int .u64 x.gt] 30)).alloc (.cells #[.bool false, .int .u8 0, .int .u64 0, .int .u64 0, .string ⟨#[]⟩, .slice none 0 0, .int .u8 0, .int .u8 0, .int .i64 0, .int .u8 0, .int .u8 0, .int .u64 0, .int .u64 0] 30)) := ⟨_, rfl⟩
  have hb : Below w.heap.size w W := by rw [hW]; exact ((Below.refl _ _).alloc (Nat.le_refl _) _).alloc (by simp) _
  have hz : W.heap.size = w.heap.size + 2 := by rw [hW]; simp
  have h0 : W.heap[w.heap.size]? = some (.cells #[.bool x.g, .int .u8 x.o, .int .u64 x.q, .int .u64 x.t, .string x.r, .slice A n c, .int .u8 x.s, .int .u8 x.p, .int .i64 x.v, .int .u8 x.w, .int .u8 x.ga, .int .u64 x.gf, .int .u64 x.gt] 30 (0, 0)) := by rw [hW]; exact heap_alloc2_old _ _ _
  have h1 : W.heap[w.heap.size + 1]? = some (.cells #[.bool false, .int .u8 0, .int .u64 0, .int .u64 0, .string ⟨#[]⟩, .slice none 0 0, .int .u8 0, .int .u8 0, .int .i64 0, .int .u8 0, .int .u8 0, .int .u64 0, .int .u64 0] 30 (0, 0)) := by rw [hW]; exact heap_alloc2_new _ _ _
  have hc := clone_any A n c x.l W hn hA hm ((hr.below hb).more (by omega))
  have c5 : W.cell? ⟨w.heap.size, 5, none⟩ = some (.slice A n c) := cell_of_row _ _ 5 _ _ _ h0
  have HC := Lib.hid hc
  have HB := Lib.hid hb
  have HZ := Lib.hid hz
  have H0 := Lib.hid h0
  have H1 := Lib.hid h1
  have HW := Lib.hid hW
  have HN := Lib.hid hn
  clear hn hA hr hb hz h0 h1 hc hW
  go_enter Try.func42, Try.ntmps42
  go_upto_region 1 with fail
  rw [← HW.out]
  go_wp2_with fail
  refine HC.out.mono ?_
  rintro e w1 ⟨L, rfl, ho, hb⟩
  obtain ⟨A2, c2, rfl⟩ := own_slice ho
  have hz := HZ.out
  have g0 := (hb.block w.heap.size (by omega)).trans H0.out
  have g1 := (hb.block (w.heap.size + 1) (by omega)).trans H1.out
  have hs := hb.size
  have G1 := Lib.hid ((heap_setCell_other w1 ⟨w.heap.size, 5, none⟩ (w.heap.size + 1) (.slice A2 n c2) (by simp)).trans g1)
  have G0 : Hid ((w1.setCell ⟨w.heap.size, 5, none⟩ (.slice A2 n c2)).heap[w.heap.size]? = some (.cells #[.bool x.g, .int .u8 x.o, .int .u64 x.q, .int .u64 x.t, .string x.r, .slice A2 n c2, .int .u8 x.s, .int .u8 x.p, .int .i64 x.v, .int .u8 x.w, .int .u8 x.ga, .int .u64 x.gf, .int .u64 x.gt] 30 (0, 0))) := heap_setCell_same w1 w.heap.size 5 _ _ (.slice A2 n c2) g0
  have d5 := cell_of_row _ _ 5 _ _ _ g0
  have f5 := frozen_of_row _ _ 5 _ _ g0
  simp at d5
  have HO := Lib.hid ho
  have HB1 := Lib.hid (HB.out.trans (hb.mono (by omega)))
  clear g0 g1 ho hb c5 hz hs
  go_wp2_with (first
    | (refine wpList_load_row rfl _ _ rfl w.heap.size rfl _ _ _ _ G0.out Try.underlying30 rfl (by kernel_rfl) ?_)
    | (refine wpList_store_row rfl _ _ _ rfl (w.heap.size + 1) _ rfl rfl _ _ G1.out Try.infoI rfl (by simp [Value.oneCell']) ?_))
  refine bodyPost_ret (v := .agg #[.bool x.g, .int .u8 x.o, .int .u64 x.q, .int .u64 x.t, .string x.r, .slice A2 n c2, .int .u8 x.s, .int .u8 x.p, .int .i64 x.v, .int .u8 x.w, .int .u8 x.ga, .int .u64 x.gf, .int .u64 x.gt]) ?_ rfl ⟨A2, n, c2, rfl, HN.out, ?_, ?_⟩
  · exact results_cell_row rfl _ _ (w.heap.size + 1) _ _ _ _ rfl (setRow_heap _ _ _ _ _ _ G1.out) Try.underlying30 rfl (by kernel_rfl)
  · exact ownB_mono (own_setRow (ownsRow_setCell_below HO.out (by have := HZ.out; simp; omega) _) (by have := HZ.out; omega) _) (by have := HZ.out; omega)
  · exact below_setRow (HB1.out.setCell (p := ⟨w.heap.size, 5, none⟩) (Nat.le_refl _) _) (by omega) _
end Go.Proofs.Ytocdhnlffemnhaa
/- Layer 4: reading as a plain function on lists of bytes: what is put is read back; what is cut is too short; what is read was put. No program is named here. -/
namespace Go.Proofs.Ytocdhnlffemnhaa
open Go.RowKit

/-- how many bytes of a number say that more follow: nine at most -/
def cnt (i : Nat) : List Nat → Nat
  | [] => i
  | c :: t => if 128 ≤ c ∧ i < 9 then cnt (i + 1) t else i

/-- what getU answers of bytes l, i of which (all ≥ 128) were taken, in terms of the first byte that ends them -/
theorem getU_end : ∀ (l : List Nat) (i acc : Nat), (∀ x ∈ l, x < 256) → i ≤ 9 →
    (cnt i l = i + l.length ∧ getU i acc l = (0, [], 3)) ∨
    ∃ (pre : List Nat) (c : Nat) (t : List Nat), l = pre ++ c :: t ∧ cnt i l = i + pre.length ∧
      ((i + pre.length = 9 ∧ 1 < c ∧ getU i acc l = (0, [], 6)) ∨
       (¬ (i + pre.length = 9 ∧ 1 < c) ∧ 0 < i + pre.length ∧ c = 0 ∧ getU i acc l = (0, [], 2)) ∨
       (¬ (i + pre.length = 9 ∧ 1 < c) ∧ ¬ (0 < i + pre.length ∧ c = 0) ∧ ∃ m, getU i acc l = (acc + 128 ^ i * m, t, 0) ∧ (0 < i → 0 < m) ∧ leb m = pre ++ [c]))
  | [], i, acc, _, _ => .inl ⟨rfl, rfl⟩
  | c :: t, i, acc, hok, hi => by
    have hc : c < 256 := hok c (by simp)
    by_cases h : 128 ≤ c ∧ i < 9
    · have e1 : cnt i (c :: t) = cnt (i + 1) t := by rw [cnt, if_pos h]
      have e2 : getU i acc (c :: t) = getU (i + 1) (acc + 128 ^ i * (c % 128)) t := by
        rw [getU, if_neg (by omega), if_neg (by omega), if_neg (by omega)]
      rw [e1, e2]
      rcases getU_end t (i + 1) (acc + 128 ^ i * (c % 128)) (fun x hx => hok x (by simp [hx])) (by omega) with ⟨h1, h2⟩ | ⟨pre, d, t2, rfl, h2, h3⟩
      · exact .inl ⟨by rw [h1, List.length_cons]; omega, h2⟩
      · refine .inr ⟨c :: pre, d, t2, rfl, by rw [h2, List.length_cons]; omega, ?_⟩
        have el : i + (c :: pre).length = i + 1 + pre.length := by rw [List.length_cons]; omega
        rw [el]
        rcases h3 with ⟨a, b, e⟩ | ⟨a, b, e, f⟩ | ⟨a, b, m, e, f, k⟩
        · exact .inl ⟨a, b, e⟩
        · exact .inr (.inl ⟨a, b, e, f⟩)
        · refine .inr (.inr ⟨a, b, c % 128 + 128 * m, ?_, fun _ => ?_, ?_⟩)
          · rw [e, Nat.mul_add, Nat.pow_succ, Nat.mul_assoc, Nat.add_assoc]
          · have := f (by omega); omega
          · have hm := f (by omega)
            rw [leb_ge (by omega)]
            rw [show (c % 128 + 128 * m) % 128 + 128 = c by omega, show (c % 128 + 128 * m) / 128 = m by omega, k]
            rfl
    · have e1 : cnt i (c :: t) = i := by rw [cnt, if_neg h]
      refine .inr ⟨[], c, t, rfl, by rw [e1]; rfl, ?_⟩
      simp only [List.length_nil, Nat.add_zero, List.nil_append]
      by_cases h1 : i = 9 ∧ 1 < c
      · exact .inl ⟨h1.1, h1.2, by rw [getU, if_pos h1]⟩
      · by_cases h2 : 0 < i ∧ c = 0
        · exact .inr (.inl ⟨h1, h2.1, h2.2, by rw [getU, if_neg h1, if_pos h2]⟩)
        · exact .inr (.inr ⟨h1, h2, c, by rw [getU, if_neg h1, if_neg h2, if_pos (by omega)], fun h3 => by omega, leb_lt (by omega)⟩)
theorem getT_text {s : ByteArray} (hs : s.size ≤ 1048576) (most : Nat) (hm : s.size ≤ most) (rest : List Nat) : getT most (leb s.size ++ bytesN s ++ rest) = (bytesN s, rest, 0) := by
  unfold getT
  rw [List.append_assoc, getU_put (by omega)]
  simp only [ne_eq, not_true_eq_false, if_false]
  rw [if_neg (by omega), if_neg (by rw [List.length_append, bytesN_length]; omega)]
  have hl := bytesN_length s
  rw [← hl, List.take_left, List.drop_left]


/-- a reader's state: the bytes that are left, the error -/
abbrev St := List Nat × Nat
abbrev Rm (α : Type) := St → α × St
section
variable {α β : Type}
def bnd (F : Rm α) (G : α → Rm β) : Rm β := fun s => G (F s).1 (F s).2
def ret (a : α) : Rm α := fun s => (a, s)
def lft (z : α) (f : List Nat → α × List Nat × Nat) : Rm α := fun s => if s.2 = 0 then f s.1 else (z, s)

/-- an error stays -/
def Sticks (F : Rm α) : Prop := ∀ l e, e ≠ 0 → (F (l, e)).2 = (l, e)
/-- behind an error nothing is left -/
def Bare (F : Rm α) : Prop := ∀ l, (F (l, 0)).2.2 ≠ 0 → (F (l, 0)).2.1 = []
/-- these bytes are read as a -/
def Puts2 (F : Rm α) (B : List Nat) (a : α) : Prop := ∀ rest, F (B ++ rest, 0) = (a, (rest, 0))
/-- these bytes, cut, are too short -/
def Cuts (F : Rm α) (B : List Nat) : Prop := ∀ K, K < B.length → (F (B.take K, 0)).2 = ([], 3)

theorem Sticks.lft (z : α) (f : List Nat → α × List Nat × Nat) : Sticks (lft z f) := fun l e he => by simp [Proofs.Ytocdhnlffemnhaa.lft, he]
theorem Sticks.ret (a : α) : Sticks (ret a) := fun _ _ _ => rfl
theorem Sticks.bnd {F : Rm α} {G : α → Rm β} (h : Sticks F) (k : ∀ a, Sticks (G a)) : Sticks (bnd F G) := fun l e he => by
  show (G (F (l, e)).1 (F (l, e)).2).2 = _
  rw [h l e he]
  exact k _ l e he
theorem Bare.ret (a : α) : Bare (ret a) := fun _ h => absurd rfl h
theorem Bare.bnd {F : Rm α} {G : α → Rm β} (h : Bare F) (k : ∀ a, Sticks (G a)) (k2 : ∀ a, Bare (G a)) : Bare (bnd F G) := fun l h1 => by
  replace h1 : (G (F (l, 0)).1 (F (l, 0)).2).2.2 ≠ 0 := h1
  show (G (F (l, 0)).1 (F (l, 0)).2).2.1 = []
  obtain ⟨a, l1, e1, hF⟩ : ∃ a l1 e1, F (l, 0) = (a, (l1, e1)) := ⟨_, _, _, rfl⟩
  have hb := h l
  rw [hF] at h1 hb ⊢
  by_cases he : e1 = 0
  · subst he; exact k2 a l1 h1
  · rw [k a l1 e1 he] at h1 ⊢
    exact hb he
theorem Puts2.ret (a : α) : Puts2 (ret a) [] a := fun _ => rfl
theorem Puts2.bnd {F : Rm α} {G : α → Rm β} {B1 B2 : List Nat} {a : α} {b : β} (h : Puts2 F B1 a) (k : Puts2 (G a) B2 b) : Puts2 (bnd F G) (B1 ++ B2) b := fun rest => by
  show G (F (B1 ++ B2 ++ rest, 0)).1 (F (B1 ++ B2 ++ rest, 0)).2 = _
  rw [List.append_assoc, h]
  exact k rest
theorem Cuts.ret (a : α) : Cuts (ret a) [] := fun K h => absurd h (by simp)
theorem Cuts.bnd {F : Rm α} {G : α → Rm β} {B1 B2 : List Nat} {a : α} (h : Cuts F B1) (hp : Puts2 F B1 a) (k : Cuts (G a) B2) (ks : ∀ a, Sticks (G a)) : Cuts (bnd F G) (B1 ++ B2) := fun K hK => by
  show (G (F ((B1 ++ B2).take K, 0)).1 (F ((B1 ++ B2).take K, 0)).2).2 = _
  by_cases h1 : K < B1.length
  · have e : (B1 ++ B2).take K = B1.take K := by
      rw [List.take_append, show K - B1.length = 0 by omega]
      simp
    rw [e, h K h1]
    exact ks _ [] 3 (by decide)
  · have e : (B1 ++ B2).take K = B1 ++ B2.take (K - B1.length) := by
      rw [List.take_append, List.take_of_length_le (by omega)]
    rw [List.length_append] at hK
    rw [e, hp]
    exact k _ (by omega)
/-- where no error came, none came ahead either -/
theorem bnd_ok {F : Rm α} {G : α → Rm β} {l l' : List Nat} {b : β} (h : bnd F G (l, 0) = (b, (l', 0))) (ks : ∀ a, Sticks (G a)) : ∃ a l1, F (l, 0) = (a, (l1, 0)) ∧ G a (l1, 0) = (b, (l', 0)) := by
  have e : bnd F G (l, 0) = G (F (l, 0)).1 (F (l, 0)).2 := rfl
  rw [e] at h
  obtain ⟨a, l1, e1, hF⟩ : ∃ a l1 e1, F (l, 0) = (a, (l1, e1)) := ⟨_, _, _, rfl⟩
  rw [hF] at h
  by_cases he : e1 = 0
  · subst he; exact ⟨a, l1, hF, h⟩
  · have h2 := ks a l1 e1 he
    have h3 : G a (l1, e1) = (b, (l', 0)) := h
    rw [h3] at h2
    have h4 : (0 : Nat) = e1 := congrArg (·.2) h2
    exact absurd h4.symm he
end

def oneB : List Nat → Nat × List Nat × Nat
  | [] => (0, [], 3)
  | c :: t => (c, t, 0)
def rByte : Rm Nat := lft 0 oneB
def rU : Rm Nat := lft 0 (getU 0 0)
def rI : Rm Int := bnd rU fun n => ret (zag n)
def rB : Rm Bool := lft false getB
def rT (m : Nat) : Rm ByteArray := bnd (lft [] (getT m)) fun l => ret (strB l)
def rC (top : Nat) : Rm Nat := lft 0 (getC top)
def rL (mk mv : Nat) : Nat → Rm (List Pr)
  | 0 => ret []
  | k + 1 => bnd (rT mk) fun a => bnd (rT mv) fun b => bnd (rL mk mv k) fun l => ret ((a, b) :: l)
def rLabs (mc mk mv : Nat) : Rm (List Pr) := bnd (rC mc) fun n => rL mk mv n
def evR (mr mc mk mv : Nat) : Rm It := bnd rByte fun o => bnd rU fun q => bnd rU fun t => bnd (rT mr) fun r => bnd (rLabs mc mk mv) fun l => bnd rByte fun s => bnd rByte fun p => bnd rI fun v => bnd rByte fun w => ret ⟨false, o, q, t, r, l, s, p, v, w, 0, 0, 0⟩
def gapR : Rm It := bnd rByte fun o => bnd rU fun f => bnd rU fun t => ret ⟨true, 0, 0, 0, ⟨#[]⟩, [], 0, 0, 0, 0, o, f, t⟩
def itR (mr mc mk mv : Nat) : Rm It := bnd rB fun g => if g then gapR else evR mr mc mk mv
def zeroI : It := ⟨false, 0, 0, 0, ⟨#[]⟩, [], 0, 0, 0, 0, 0, 0, 0⟩
/-- what an item's own check makes of it -/
def chkR (x : It) : Rm It := fun s => if s.2 = 0 then (if itemN x = 0 then (x, s) else (zeroI, ([], itemN x))) else (zeroI, s)
def takeR : Rm It := bnd (itR 12 8 8 16) chkR
/-- an item without what is no part of it -/
def normI (x : It) : It := if x.g then ⟨true, 0, 0, 0, ⟨#[]⟩, [], 0, 0, 0, 0, x.ga, x.gf, x.gt⟩ else ⟨false, x.o, x.q, x.t, x.r, x.l, x.s, x.p, x.v, x.w, 0, 0, 0⟩

theorem rByte_s : Sticks rByte := Sticks.lft _ _
theorem rU_s : Sticks rU := Sticks.lft _ _
theorem rI_s : Sticks rI := rU_s.bnd fun _ => Sticks.ret _
theorem rB_s : Sticks rB := Sticks.lft _ _
theorem rT_s (m : Nat) : Sticks (rT m) := (Sticks.lft _ _).bnd fun _ => Sticks.ret _
theorem rC_s (top : Nat) : Sticks (rC top) := Sticks.lft _ _
theorem rL_s (mk mv : Nat) : ∀ k, Sticks (rL mk mv k)
  | 0 => Sticks.ret _
  | k + 1 => (rT_s mk).bnd fun _ => (rT_s mv).bnd fun _ => (rL_s mk mv k).bnd fun _ => Sticks.ret _
theorem rLabs_s (mc mk mv : Nat) : Sticks (rLabs mc mk mv) := (rC_s mc).bnd fun n => rL_s mk mv n
theorem evR_s (mr mc mk mv : Nat) : Sticks (evR mr mc mk mv) := rByte_s.bnd fun _ => rU_s.bnd fun _ => rU_s.bnd fun _ => (rT_s mr).bnd fun _ => (rLabs_s mc mk mv).bnd fun _ => rByte_s.bnd fun _ => rByte_s.bnd fun _ => rI_s.bnd fun _ => rByte_s.bnd fun _ => Sticks.ret _
theorem gapR_s : Sticks gapR := rByte_s.bnd fun _ => rU_s.bnd fun _ => rU_s.bnd fun _ => Sticks.ret _
theorem itG_s (mr mc mk mv : Nat) (g : Bool) : Sticks (if g then gapR else evR mr mc mk mv) := by
  cases g
  · exact evR_s mr mc mk mv
  · exact gapR_s
theorem chkR_s (x : It) : Sticks (chkR x) := fun l e he => by simp [chkR, he]

theorem rByte_p (c : Nat) : Puts2 rByte [c] c := fun _ => rfl
theorem rByte_c (c : Nat) : Cuts rByte [c] := fun K hK => by
  obtain rfl : K = 0 := by simp at hK; omega
  rfl
theorem rU_p {n : Nat} (h : n < 18446744073709551616) : Puts2 rU (leb n) n := fun rest => by
  show getU 0 0 (leb n ++ rest) = _
  exact getU_put h rest
theorem rU_c {n : Nat} (h : n < 18446744073709551616) : Cuts rU (leb n) := fun K hK => by
  show (getU 0 0 ((leb n).take K)).2 = _
  rw [getU_cut 9 0 0 n K rfl (by omega) (by omega) hK]
theorem rI_p {z : Int} (h1 : -9223372036854775808 ≤ z) (h2 : z < 9223372036854775808) : Puts2 rI (leb (zig z)) z := by
  intro rest
  show (ret (zag (rU (leb (zig z) ++ rest, 0)).1)) (rU (leb (zig z) ++ rest, 0)).2 = _
  rw [rU_p (zig_lt h1 h2) rest, zag_zig]
  rfl
theorem rI_c {z : Int} (h1 : -9223372036854775808 ≤ z) (h2 : z < 9223372036854775808) : Cuts rI (leb (zig z)) := by
  have h := (rU_c (zig_lt h1 h2)).bnd (rU_p (zig_lt h1 h2)) (Cuts.ret (zag (zig z))) (G := fun n => ret (zag n)) (fun _ => Sticks.ret _)
  rwa [List.append_nil] at h
theorem rB_p (g : Bool) : Puts2 rB [if g then 1 else 0] g := fun _ => by cases g <;> rfl
theorem rB_c (g : Bool) : Cuts rB [if g then 1 else 0] := fun K hK => by
  obtain rfl : K = 0 := by simp at hK; omega
  rfl
theorem rT_p {s : ByteArray} (hs : s.size ≤ 1048576) {m : Nat} (hm : s.size ≤ m) : Puts2 (rT m) (textB s) s := fun rest => by
  show (ret (strB ((lft [] (getT m)) (textB s ++ rest, 0)).1)) ((lft [] (getT m)) (textB s ++ rest, 0)).2 = _
  have e : (lft [] (getT m)) (textB s ++ rest, 0) = (bytesN s, (rest, 0)) := getT_text hs m hm rest
  rw [e]
  show (strB (bytesN s), (rest, 0)) = _
  rw [strB_bytesN]
theorem getT_cut2 {n : Nat} (hn : n < 18446744073709551616) (t : List Nat) (ht : t.length = n) (m : Nat) (hm : n ≤ m) (K : Nat) (hK : K < (leb n ++ t).length) : getT m ((leb n ++ t).take K) = ([], [], 3) := by
  unfold getT
  by_cases h : K < (leb n).length
  · have e : (leb n ++ t).take K = (leb n).take K := by
      rw [List.take_append]
      rw [show K - (leb n).length = 0 by omega]
      simp
    rw [e, getU_cut 9 0 0 n K rfl (by omega) (by omega) h]
    simp
  · have e : (leb n ++ t).take K = leb n ++ t.take (K - (leb n).length) := by
      rw [List.take_append]
      rw [List.take_of_length_le (by omega)]
    rw [List.length_append] at hK
    rw [e, getU_put hn]
    simp only [ne_eq, not_true_eq_false, if_false]
    rw [if_neg (by omega), if_pos (by rw [List.length_take]; omega)]
theorem rT_c {s : ByteArray} (hs : s.size ≤ 1048576) {m : Nat} (hm : s.size ≤ m) : Cuts (rT m) (textB s) := fun K hK => by
  show (ret (strB ((lft [] (getT m)) ((textB s).take K, 0)).1) ((lft [] (getT m)) ((textB s).take K, 0)).2).2 = _
  have e : (lft [] (getT m)) ((textB s).take K, 0) = ([], ([], 3)) := getT_cut2 (by omega) (bytesN s) (bytesN_length s) m hm K hK
  rw [e]
  rfl
theorem rC_p {n top : Nat} (h : n ≤ top) (hn : n < 18446744073709551616) : Puts2 (rC top) (leb n) n := fun rest => by
  show getC top (leb n ++ rest) = _
  unfold getC
  rw [getU_put hn]
  simp only [ne_eq, not_true_eq_false, if_false]
  rw [if_neg (by omega)]
theorem rC_c {n top : Nat} (hn : n < 18446744073709551616) : Cuts (rC top) (leb n) := fun K hK => by
  show (getC top ((leb n).take K)).2 = _
  unfold getC
  rw [getU_cut 9 0 0 n K rfl (by omega) (by omega) hK]
  simp

/-- labels that fit -/
def FitL (mk mv : Nat) (l : List Pr) : Prop := ∀ p ∈ l, (p.1.size ≤ mk ∧ p.2.size ≤ mv) ∧ p.1.size ≤ 1048576 ∧ p.2.size ≤ 1048576
theorem rL_p {mk mv : Nat} : ∀ {l : List Pr}, FitL mk mv l → Puts2 (rL mk mv l.length) (labsB l) l
  | [], _ => Puts2.ret _
  | p :: r, h => by
    obtain ⟨⟨h1, h2⟩, h3, h4⟩ := h p (by simp)
    have hr := rL_p (l := r) (fun q hq => h q (by simp [hq]))
    have k := (rT_p h3 h1).bnd (G := fun a => bnd (rT mv) fun b => bnd (rL mk mv r.length) fun l => ret ((a, b) :: l)) ((rT_p h4 h2).bnd (G := fun b => bnd (rL mk mv r.length) fun l => ret ((p.1, b) :: l)) (hr.bnd (G := fun l => ret ((p.1, p.2) :: l)) (Puts2.ret _)))
    rw [List.append_nil, ← List.append_assoc] at k
    exact k
theorem rL_c {mk mv : Nat} : ∀ {l : List Pr}, FitL mk mv l → Cuts (rL mk mv l.length) (labsB l)
  | [], _ => Cuts.ret _
  | p :: r, h => by
    obtain ⟨⟨h1, h2⟩, h3, h4⟩ := h p (by simp)
    have hf : FitL mk mv r := fun q hq => h q (by simp [hq])
    have k := (rT_c h3 h1).bnd (rT_p h3 h1) (G := fun a => bnd (rT mv) fun b => bnd (rL mk mv r.length) fun l => ret ((a, b) :: l)) ((rT_c h4 h2).bnd (rT_p h4 h2) (G := fun b => bnd (rL mk mv r.length) fun l => ret ((p.1, b) :: l)) ((rL_c hf).bnd (rL_p hf) (G := fun l => ret ((p.1, p.2) :: l)) (Cuts.ret _) fun _ => Sticks.ret _) fun _ => (rL_s mk mv _).bnd fun _ => Sticks.ret _) fun _ => (rT_s mv).bnd fun _ => (rL_s mk mv _).bnd fun _ => Sticks.ret _
    rw [List.append_nil, ← List.append_assoc] at k
    exact k
theorem rLabs_p {mc mk mv : Nat} {l : List Pr} (hl : l.length ≤ mc) (hl2 : l.length ≤ 1048576) (h : FitL mk mv l) : Puts2 (rLabs mc mk mv) (leb l.length ++ labsB l) l :=
  (rC_p hl (by omega)).bnd (G := fun n => rL mk mv n) (rL_p h)
theorem rLabs_c {mc mk mv : Nat} {l : List Pr} (hl : l.length ≤ mc) (hl2 : l.length ≤ 1048576) (h : FitL mk mv l) : Cuts (rLabs mc mk mv) (leb l.length ++ labsB l) :=
  (rC_c (by omega)).bnd (rC_p hl (by omega)) (G := fun n => rL mk mv n) (rL_c h) fun n => rL_s mk mv n

/-- an item that fits into these limits -/
structure FitI (mr mc mk mv : Nat) (x : It) : Prop where
  r : x.r.size ≤ mr
  r2 : x.r.size ≤ 1048576
  c : x.l.length ≤ mc
  c2 : x.l.length ≤ 1048576
  l : FitL mk mv x.l
theorem evB_right (x : It) : evB x = [x.o] ++ (leb x.q ++ (leb x.t ++ (textB x.r ++ ((leb x.l.length ++ labsB x.l) ++ ([x.s] ++ ([x.p] ++ (leb (zig x.v) ++ ([x.w] ++ [])))))))) := by
  simp [evB, headB, tailB]
theorem gapB_right (x : It) : gapB x = [x.ga] ++ (leb x.gf ++ (leb x.gt ++ [])) := by simp [gapB]
theorem itemB_right (x : It) : itemB x = [if x.g then 1 else 0] ++ (if x.g then gapB x else evB x) := by
  unfold itemB
  cases x.g <;> rfl
section
variable {mr mc mk mv : Nat} {x : It}
theorem evR_p (hx : OkI x) (hf : FitI mr mc mk mv x) : Puts2 (evR mr mc mk mv) (evB x) ⟨false, x.o, x.q, x.t, x.r, x.l, x.s, x.p, x.v, x.w, 0, 0, 0⟩ := by
  rw [evB_right]
  exact (rByte_p x.o).bnd ((rU_p hx.q).bnd ((rU_p hx.t).bnd ((rT_p hf.r2 hf.r).bnd ((rLabs_p hf.c hf.c2 hf.l).bnd ((rByte_p x.s).bnd ((rByte_p x.p).bnd ((rI_p hx.v0 hx.v1).bnd ((rByte_p x.w).bnd (Puts2.ret _)))))))))
theorem gapR_p (hx : OkI x) : Puts2 gapR (gapB x) ⟨true, 0, 0, 0, ⟨#[]⟩, [], 0, 0, 0, 0, x.ga, x.gf, x.gt⟩ := by
  rw [gapB_right]
  exact (rByte_p x.ga).bnd ((rU_p hx.gf).bnd ((rU_p hx.gt).bnd (Puts2.ret _)))
end
end Go.Proofs.Ytocdhnlffemnhaa
