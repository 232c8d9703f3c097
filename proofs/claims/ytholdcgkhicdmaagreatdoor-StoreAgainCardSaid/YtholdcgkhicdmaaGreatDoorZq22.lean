/- Several texts in one: CrcAdd, CrcBytes, CrcSeal, JlPlain, JlSum, JlCutB. -/
import Derived.Test.YtholdcgkhicdmaaGreatDoorZq21
namespace Go.Proofs.YtholdcgkhicdmaaGreatDoor
open Go.RowKit
def addN (s : Nat) (l : List Nat) : Nat := reg (s ^^^ full) l ^^^ full
theorem addN_zero (l : List Nat) : addN 0 l = sumN l := by simp [addN, sumN]
def Off (A : Option Addr) (g : Nat) (l : List Nat) : Prop := 0 < l.length → ∀ a, A = some a → a.block ≠ g
theorem RdB.turned {w w' : World} {B g : Nat} {A : Option Addr} {l : List Nat} {P : Nat → Prop} (h : RdB w B A l) (ho : Off A g l) (ht : TurnsIn w w' g P) : RdB w' B A l := fun h0 =>
 (h.grown ht.grown fun k hk a ha e => ho h0 a ha (e.trans (by injection hk with hk; exact hk.symm))) h0
theorem Tab.counted {w : World} {g d s b : Nat} (h : Tab w g d s b) (x : Nat) : Tab (w.setCell ⟨g, 260, none⟩ (.int .u64 x)) g d s x :=
 { lt := by simpa using h.lt
   c0 := (World.cell?_setCell_other _ ⟨g, 260, none⟩ ⟨g, 0, none⟩ _ (by simp)).trans h.c0
   c1 := (World.cell?_setCell_other _ ⟨g, 260, none⟩ ⟨g, 1, none⟩ _ (by simp)).trans h.c1
   tab := fun j hj => by
    obtain ⟨x, hx, hx2⟩ := h.tab j hj
    exact ⟨x, (World.cell?_setCell_other _ ⟨g, 260, none⟩ ⟨g, 3 + j, none⟩ _ (by intro e; injection e; omega)).trans hx, hx2⟩
   sums := (World.cell?_setCell_other _ ⟨g, 260, none⟩ ⟨g, 259, none⟩ _ (by simp)).trans h.sums
   bytes := World.cell?_setCell_same _ _ _ h.bytes
   fz := fun o => by simpa using h.fz o }
theorem Tab.summed {w : World} {g d s b : Nat} (h : Tab w g d s b) (x : Nat) : Tab (w.setCell ⟨g, 259, none⟩ (.int .u64 x)) g d x b :=
 { lt := by simpa using h.lt
   c0 := (World.cell?_setCell_other _ ⟨g, 259, none⟩ ⟨g, 0, none⟩ _ (by simp)).trans h.c0
   c1 := (World.cell?_setCell_other _ ⟨g, 259, none⟩ ⟨g, 1, none⟩ _ (by simp)).trans h.c1
   tab := fun j hj => by
    obtain ⟨x, hx, hx2⟩ := h.tab j hj
    exact ⟨x, (World.cell?_setCell_other _ ⟨g, 259, none⟩ ⟨g, 3 + j, none⟩ _ (by intro e; injection e; omega)).trans hx, hx2⟩
   sums := World.cell?_setCell_same _ _ _ h.sums
   bytes := (World.cell?_setCell_other _ ⟨g, 259, none⟩ ⟨g, 260, none⟩ _ (by simp)).trans h.bytes
   fz := fun o => by simpa using h.fz o }
set_option maxRecDepth 100000 in
set_option maxHeartbeats 1000000 in
theorem tadd_any (g d s b : Nat) (hd : d ≤ 1) (sum : Nat) (hsum : sum < 4294967296) (A : Option Addr) (n c : Nat) (l : List Nat) (B : Nat) (w : World) (h : Tab w g d s b) (hn : n = l.length) (hm : n ≤ maxLen) (hbn : b + n < 18446744073709551616) (hr : RdB w B A l) (hok : OkB l) (hoff : Off A g l) :
  Calls Tryz.prog 161 #[.pointer (some ⟨g, 0, none⟩), .int .u32 sum, .slice A n c] w fun e w' => e = .returned (.int .u32 (addN sum l : Nat)) ∧ TurnsIn w w' g (fun _ => True) ∧ Tab w' g 1 s (b + n) := by
 have Hn := Lib.hid hn
 have Hr := Lib.hid hr
 have Hok := Lib.hid hok
 have Ho := Lib.hid (do_any g d s b hd w h)
 unfold maxLen at hm
 have hmf : ∀ (fn : Fn) (first cap : Array Value) (w : World), (Instr.makeFunc fn first cap).run Tryz.prog w = .ok (.func fn first cap) w := fun _ _ _ _ => rfl
 have hu : bits .xor .u32 IntKind.u32.max (sum : Int) = (sum ^^^ full : Nat) := by
  rw [Nat.xor_comm]; exact u32_xor_nat full sum (by decide) hsum
 have hs2 : sum ^^^ full < 4294967296 := Nat.xor_lt_two_pow (n := 32) hsum (by decide)
 clear hn hr hok h
 go_enter Tryz.func161, Tryz.ntmps161
 go_wp2_with fail
 refine Ho.out.mono ?_
 rintro e w1 ⟨rfl, ht1, hT1⟩
 have HT1 := Lib.hid hT1
 have Ht1 := Lib.hid ht1
 have Hc := Lib.hid (count_add g 260 b n w1 hbn hT1.bytes (hT1.fz 260))
 clear hT1 ht1
 go_wp2_with fail
 refine Hc.out.mono ?_
 rintro e w2 ⟨rfl, rfl⟩
 have HT2 := Lib.hid (HT1.out.counted (b + n))
 have Ht2 := Lib.hid ((Ht1.out.mono (fun _ _ => trivial)).trans (TurnsIn.set w1 g 260 (.int .u64 (b + n : Nat)) (fun _ => True) trivial))
 clear HT1 Ht1 Hc Ho
 generalize (w1.setCell ⟨g, 260, none⟩ (.int .u64 (b + n : Nat))) = w2 at *
 have Hr2 := Lib.hid (Hr.out.turned hoff Ht2.out)
 go_wp2
 go_loop [7, 29] (fun r i => ∃ k : Nat, k ≤ n ∧ i = .int .i64 k ∧ ∃ m : Nat, Hid (m = reg (sum ^^^ full) (l.take k)) ∧ m < 4294967296 ∧ r = .int .u32 m) (fun _ i => n - (intOf i).toNat)
 case atStart => exact ⟨0, by omega, rfl, _, rfl, hs2, rfl⟩
 case round =>
  clear hu
  obtain ⟨k, hk, rfl, m, Hm, hm2, rfl⟩ := hrel
  by_cases hlt : k < n
  ·obtain ⟨bb, o, x, rfl, hb, hx, hc⟩ := Hr2.out.at_ (k := k) (by have := Hn.out; omega)
   have Hx := Lib.hid hx
   have hx256 : x < 256 := Hok.out.at_ hx
   have hb1 : bits .xor .u8 ((m : Int) % 256) (x : Int) = ((m % 256 ^^^ x : Nat) : Int) := u8_xor_nat (m % 256) x (by omega) hx256
   have hi256 : m % 256 ^^^ x < 256 := Nat.xor_lt_two_pow (n := 8) (by omega) (by omega)
   obtain ⟨y, hy, hy2⟩ := HT2.out.tab _ hi256
   obtain rfl := hy2 rfl
   have hlt2 := stepN_lt 8 (n := m % 256 ^^^ x) (by omega)
   have hb2 : bits .xor .u32 ((m : Int) / 256) (stepN 8 (m % 256 ^^^ x) : Nat) = (byteUp m x : Nat) := by
    rw [byteUp_table]; exact u32_xor_nat (m / 256) _ (by omega) hlt2
   have hup := byteUp_lt hm2 hx256
   clear hx hy2
   generalize m % 256 ^^^ x = q at *
   generalize stepN 8 q = z at *
   go_wp2
   refine ⟨⟨k + 1, by omega, by go_num, _, ?_, hup, rfl⟩, by simp [intOf]; omega⟩
   show byteUp m x = reg (sum ^^^ full) (l.take (k + 1))
   rw [reg_succ _ Hx.out, ← Hm.out]
  ·have hkn : k = n := by omega
   subst hkn
   have hu2 : bits .xor .u32 IntKind.u32.max (m : Int) = (m ^^^ full : Nat) := by
    rw [Nat.xor_comm]; exact u32_xor_nat full m (by decide) hm2
   have Hall : Hid (l.take k = l) := List.take_of_length_le (by have := Hn.out; omega)
   go_wp2
   go_ret
   exact ⟨ret_u32 (by rw [addN, Hm.out, Hall.out]), Ht2.out, HT2.out⟩
def zC : Array Value := (#[.int .u32 0, .int .i32 0, .int .u32 0] ++ Array.replicate 256 (.int .u32 0)) ++ #[.int .u64 0, .int .u64 0]
theorem zT_run (w : World) : (zeroValue 106).run Tryz.prog w = .ok (.agg zC) w := by kernel_rfl
theorem zC_step (j : Nat) (h : j < 256) : zC[3 + j]? = some (.int .u32 0) := by
 unfold zC
 rw [Array.getElem?_append_left (by simp; omega), Array.getElem?_append_right (by simp)]
 simp [h]
theorem zC_259 : zC[259]? = some (.int .u64 (0 : Nat)) := by kernel_rfl
theorem zC_260 : zC[260]? = some (.int .u64 (0 : Nat)) := by kernel_rfl
theorem frozen_new (w : World) (c : Array Value) (t : TypeId) (o : Nat) : (w.alloc (.cells c t)).frozen? ⟨w.heap.size, o, none⟩ = false :=
 World.frozen?_alloc_at _ _ _ _ rfl
set_option maxRecDepth 100000 in
set_option maxHeartbeats 400000 in
theorem cnew_any (w : World) :
  Calls Tryz.prog 8 #[] w fun e w' => e = .returned (.pointer (some ⟨w.heap.size, 0, none⟩)) ∧ Below w.heap.size w w' ∧ w'.heap.size = w.heap.size + 1 ∧ Tab w' w.heap.size 0 0 0 := by
 have hz := zT_run
 go_enter Tryz.func8, Tryz.ntmps8
 go_wp2
 go_ret
 have at_ : ∀ o, (w.alloc (.cells zC 106)).cell? ⟨w.heap.size, o, none⟩ = zC[o]? := fun o => by rw [World.cell?_alloc_at _ _ _ _ rfl]
 refine ⟨rfl, (Below.refl _ _).alloc (Nat.le_refl _) _, by simp, ?_⟩
 exact
  { lt := by simp
    c0 := (at_ 0).trans rfl
    c1 := (at_ 1).trans rfl
    tab := fun j hj => ⟨0, (at_ _).trans (zC_step j hj), fun e => by cases e⟩
    sums := (at_ 259).trans zC_259
    bytes := (at_ 260).trans zC_260
    fz := fun o => frozen_new _ _ _ _ }
theorem TurnsIn.of_below {w w' : World} {g : Nat} {P : Nat → Prop} (hg : g < w.heap.size) (h : Below w.heap.size w w') : TurnsIn w w' g P :=
 ⟨⟨h.os, h.tape, h.output, h.size, fun k hk _ => h.block k hk⟩, fun o _ => h.cell (p := ⟨g, o, none⟩) hg, fun o => h.frozen (p := ⟨g, o, none⟩) hg⟩
theorem Tab.turned {w w' : World} {g d s b : Nat} (h : Tab w g d s b) (ht : TurnsIn w w' g (fun _ => False)) : Tab w' g d s b :=
 { lt := Nat.lt_of_lt_of_le h.lt ht.grown.size
   c0 := (ht.cell 0 id).trans h.c0
   c1 := (ht.cell 1 id).trans h.c1
   tab := fun j hj => by
    obtain ⟨x, hx, hx2⟩ := h.tab j hj
    exact ⟨x, (ht.cell _ id).trans hx, hx2⟩
   sums := (ht.cell 259 id).trans h.sums
   bytes := (ht.cell 260 id).trans h.bytes
   fz := fun o => (ht.fz o).trans (h.fz o) }
theorem Tab.below {w w' : World} {g d s b : Nat} (h : Tab w g d s b) (hb : Below w.heap.size w w') : Tab w' g d s b := h.turned (TurnsIn.of_below h.lt hb)
theorem Tab.drew {w : World} {g d s b : Nat} (h : Tab w g d s b) : Tab w.drew g d s b := h.turned (TurnsIn.refl w g _).drew
def laidR (l : List Nat) : List Nat := four l.length ++ (four (sumN (four l.length ++ l)) ++ l)
theorem laidR_length (l : List Nat) : (laidR l).length = l.length + 8 := by simp [laidR, four]
theorem laidR_ok {l : List Nat} (h : OkB l) : OkB (laidR l) := (okB_four _).append ((okB_four _).append h)
def takeJ (b : List Nat) : Option (List Nat) :=
 if b.length < 8 then none
 else if 524288 < takeN (b.take 4) ∨ b.length - 8 < takeN (b.take 4) then none
 else if sumN (b.take 4 ++ (b.drop 8).take (takeN (b.take 4))) = takeN ((b.drop 4).take 4) then some ((b.drop 8).take (takeN (b.take 4))) else none
theorem takeJ_some {b c : List Nat} (hb : OkB b) (h : takeJ b = some c) : b = laidR c ++ b.drop (c.length + 8) ∧ c.length ≤ 524288 := by
 unfold takeJ at h
 by_cases h8 : b.length < 8
 ·rw [if_pos h8] at h; cases h
 ·rw [if_neg h8] at h
  by_cases hn : 524288 < takeN (b.take 4) ∨ b.length - 8 < takeN (b.take 4)
  ·rw [if_pos hn] at h; cases h
  ·rw [if_neg hn] at h
   by_cases hs : sumN (b.take 4 ++ (b.drop 8).take (takeN (b.take 4))) = takeN ((b.drop 4).take 4)
   ·rw [if_pos hs] at h
    injection h with h
    have h4 : (b.take 4).length = 4 := by rw [List.length_take]; omega
    have h44 : ((b.drop 4).take 4).length = 4 := by rw [List.length_take, List.length_drop]; omega
    have hc : c.length = takeN (b.take 4) := by rw [← h, List.length_take, List.length_drop]; omega
    have e1 : four c.length = b.take 4 := by rw [hc]; exact four_takeN h4 (hb.take 4)
    have e2 : four (sumN (b.take 4 ++ c)) = (b.drop 4).take 4 := by rw [← h, hs]; exact four_takeN h44 ((hb.drop 4).take 4)
    refine ⟨?_, by omega⟩
    unfold laidR
    rw [e1, e2]
    have e3 : c = (b.drop 8).take c.length := by rw [hc]; exact h.symm
    have e4 : b.drop (c.length + 8) = (b.drop 8).drop c.length := by rw [List.drop_drop, Nat.add_comm 8]
    have e5 : c ++ b.drop (c.length + 8) = b.drop 8 := by
     rw [e4]
     conv => lhs; lhs; rw [e3]
     exact List.take_append_drop _ _
    have e6 : (b.drop 4).take 4 ++ b.drop 8 = b.drop 4 := by
     have : b.drop 8 = (b.drop 4).drop 4 := by rw [List.drop_drop]
     rw [this]; exact List.take_append_drop _ _
    rw [List.append_assoc, List.append_assoc, e5, e6]
    exact (List.take_append_drop 4 b).symm
   ·rw [if_neg hs] at h; cases h
theorem takeJ_laid {c r : List Nat} (hc : OkB c) (hl : c.length ≤ 524288) : takeJ (laidR c ++ r) = some c := by
 have h4 : (four c.length).length = 4 := rfl
 have h44 : (four (sumN (four c.length ++ c))).length = 4 := rfl
 have e1 : (laidR c ++ r).take 4 = four c.length := by
  unfold laidR; rw [List.append_assoc, List.take_append_of_le_length (by omega), List.take_of_length_le (by omega)]
 have e0 : (laidR c ++ r).drop 4 = four (sumN (four c.length ++ c)) ++ (c ++ r) := by
  unfold laidR
  rw [List.append_assoc, List.append_assoc, List.drop_left' h4]
 have e2 : ((laidR c ++ r).drop 4).take 4 = four (sumN (four c.length ++ c)) := by
  rw [e0, List.take_left' h44]
 have e3 : (laidR c ++ r).drop 8 = c ++ r := by
  have : (laidR c ++ r).drop 8 = ((laidR c ++ r).drop 4).drop 4 := by rw [List.drop_drop]
  rw [this, e0, List.drop_left' h44]
 have hn : takeN (four c.length) = c.length := takeN_four (by omega)
 have hsum : sumN (four c.length ++ c) < 4294967296 := sumN_lt ((okB_four _).append hc)
 have hlen : (laidR c ++ r).length = c.length + 8 + r.length := by rw [List.length_append, laidR_length]
 unfold takeJ
 rw [if_neg (by omega), e1, hn, if_neg (by omega), e3, List.take_left, if_pos (by rw [e2, takeN_four hsum])]
def scanK : Nat → List Nat → List (List Nat) × Nat
 | 0, _ => ([], 0)
 | f + 1, b => match takeJ b with
   | none => ([], 0)
   | some c => (c :: (scanK f (b.drop (c.length + 8))).1, c.length + 8 + (scanK f (b.drop (c.length + 8))).2)
def scanJ (b : List Nat) : List (List Nat) × Nat := scanK (b.length + 1) b
theorem takeJ_long {b c : List Nat} (h : takeJ b = some c) : c.length + 8 ≤ b.length := by
 unfold takeJ at h
 by_cases h8 : b.length < 8
 ·rw [if_pos h8] at h; cases h
 ·rw [if_neg h8] at h
  by_cases hn : 524288 < takeN (b.take 4) ∨ b.length - 8 < takeN (b.take 4)
  ·rw [if_pos hn] at h; cases h
  ·rw [if_neg hn] at h
   split at h
   ·injection h with h
    rw [← h, List.length_take, List.length_drop]; omega
   ·cases h
theorem scanK_fuel : ∀ (f : Nat) (b : List Nat), b.length < f → scanK f b = scanJ b
 | 0, b, h => by omega
 | f + 1, b, h => by
   unfold scanJ
   rw [scanK, scanK]
   cases e : takeJ b with
   | none => rfl
   | some c =>
     have hl := takeJ_long e
     have h1 : (b.drop (c.length + 8)).length < f := by rw [List.length_drop]; omega
     have h2 : (b.drop (c.length + 8)).length < b.length := by rw [List.length_drop]; omega
     simp only [scanK_fuel f _ h1]
     have h3 : scanK b.length (b.drop (c.length + 8)) = scanJ (b.drop (c.length + 8)) := by
      by_cases hbf : b.length = f
      ·rw [hbf]; exact scanK_fuel f _ h1
      ·exact scanK_fuel b.length _ h2
     rw [h3]
termination_by f b => f + b.length
theorem scanJ_none {b : List Nat} (h : takeJ b = none) : scanJ b = ([], 0) := by unfold scanJ; rw [scanK, h]
theorem scanJ_some {b c : List Nat} (h : takeJ b = some c) : scanJ b = (c :: (scanJ (b.drop (c.length + 8))).1, c.length + 8 + (scanJ (b.drop (c.length + 8))).2) := by
 have hl := takeJ_long h
 have e : scanK b.length (b.drop (c.length + 8)) = scanJ (b.drop (c.length + 8)) := scanK_fuel _ _ (by rw [List.length_drop]; omega)
 conv => lhs; unfold scanJ
 rw [scanK, h]
 simp only [e]
def joinR (L : List (List Nat)) : List Nat := L.flatMap laidR
def OkR (L : List (List Nat)) : Prop := ∀ c ∈ L, OkB c ∧ c.length ≤ 524288
theorem scanJ_join : ∀ {L : List (List Nat)} {r : List Nat}, OkR L → scanJ (joinR L ++ r) = (L ++ (scanJ r).1, (joinR L).length + (scanJ r).2)
 | [], r, _ => by simp [joinR]
 | c :: L, r, h => by
   have hc := h c (by simp)
   have ih := scanJ_join (L := L) (r := r) fun x hx => h x (by simp [hx])
   have e : joinR (c :: L) ++ r = laidR c ++ (joinR L ++ r) := by simp [joinR]
   have ed : (laidR c ++ (joinR L ++ r)).drop (c.length + 8) = joinR L ++ r := List.drop_left' (laidR_length c)
   rw [e, scanJ_some (takeJ_laid hc.1 hc.2), ed, ih]
   have : (joinR (c :: L)).length = c.length + 8 + (joinR L).length := by
    show (laidR c ++ joinR L).length = _
    rw [List.length_append, laidR_length]
   rw [this]
   simp only [List.cons_append, Nat.add_assoc]
theorem scanJ_le : ∀ (n : Nat) (b : List Nat), b.length ≤ n → (scanJ b).2 ≤ b.length
 | n, b, h => by
   cases e : takeJ b with
   | none => rw [scanJ_none e]; exact Nat.zero_le _
   | some c =>
     have hl := takeJ_long e
     match n with
     | 0 => omega
     | n + 1 =>
       have ih := scanJ_le n (b.drop (c.length + 8)) (by rw [List.length_drop]; omega)
       rw [scanJ_some e]
       rw [List.length_drop] at ih
       show c.length + 8 + _ ≤ _
       omega
theorem addN_add (s : Nat) (a b : List Nat) : addN (addN s a) b = addN s (a ++ b) := by
 unfold addN
 rw [Nat.xor_assoc, Nat.xor_self, Nat.xor_zero, reg_append]
set_option maxRecDepth 100000 in
set_option maxHeartbeats 1000000 in
theorem tsum_two (g d s b q : Nat) (hd : d ≤ 1) (A1 : Option Addr) (n1 c1 : Nat) (l1 : List Nat) (A2 : Option Addr) (n2 c2 : Nat) (l2 : List Nat) (B : Nat) (w : World) (h : Tab w g d s b) (hn1 : n1 = l1.length) (hn2 : n2 = l2.length) (hm1 : n1 ≤ maxLen) (hm2 : n2 ≤ maxLen)
  (hs : s < 18446744073709551615) (hbn : b + n1 + n2 < 18446744073709551616) (hr1 : RdB w B A1 l1) (hok1 : OkB l1) (hoff1 : Off A1 g l1) (hr2 : RdB w B A2 l2) (hok2 : OkB l2) (hoff2 : Off A2 g l2) (hq : q ≠ g) (hcq1 : w.cell? ⟨q, 0, none⟩ = some (.slice A1 n1 c1)) (hcq2 : w.cell? ⟨q, 1, none⟩ = some (.slice A2 n2 c2)) (hql : q < w.heap.size) :
  Calls Tryz.prog 123 #[.pointer (some ⟨g, 0, none⟩), .slice (some ⟨q, 0, none⟩) 2 2] w fun e w' => e = .returned (.int .u32 (sumN (l1 ++ l2) : Nat)) ∧ TurnsIn w w' g (fun _ => True) ∧ Tab w' g 1 (s + 1) (b + n1 + n2) := by
 have HT1 := Lib.hid (h.summed (s + 1))
 have Ht1 := Lib.hid (TurnsIn.set w g 259 (.int .u64 (s + 1 : Nat)) (fun _ => True) trivial)
 have Hc := Lib.hid (count_add g 259 s 1 w (by omega) h.sums (h.fz 259))
 have Hr1 := Lib.hid (hr1.turned hoff1 Ht1.out)
 have Hr2 := Lib.hid (hr2.turned hoff2 Ht1.out)
 have hc1 := (World.cell?_setCell_other w ⟨g, 259, none⟩ ⟨q, 0, none⟩ (.int .u64 (s + 1 : Nat)) (by intro e; injection e with e; exact hq e.symm)).trans hcq1
 have hc2 := (World.cell?_setCell_other w ⟨g, 259, none⟩ ⟨q, 1, none⟩ (.int .u64 (s + 1 : Nat)) (by intro e; injection e with e; exact hq e.symm)).trans hcq2
 have Ha := Lib.hid (tadd_any g d (s + 1) b hd 0 (by decide) A1 n1 c1 l1 B _ HT1.out hn1 hm1 (by omega) Hr1.out hok1 hoff1)
 rw [addN_zero] at Ha
 have hsum : sumN l1 < 4294967296 := sumN_lt hok1
 have Ha2 : Hid (∀ w3, TurnsIn (w.setCell ⟨g, 259, none⟩ (.int .u64 (s + 1 : Nat))) w3 g (fun _ => True) → Tab w3 g 1 (s + 1) (b + n1) → Calls Tryz.prog 161 #[.pointer (some ⟨g, 0, none⟩), .int .u32 (sumN l1 : Nat), .slice A2 n2 c2] w3 fun e w' => e = .returned (.int .u32 (addN (sumN l1) l2 : Nat)) ∧ TurnsIn w3 w' g (fun _ => True) ∧ Tab w' g 1 (s + 1) (b + n1 + n2)) := fun w3 ht hT =>
  (tadd_any g 1 (s + 1) (b + n1) (by decide) (sumN l1) hsum A2 n2 c2 l2 B w3 hT hn2 hm2 (by omega) (Hr2.out.turned hoff2 ht) hok2 hoff2)
 have Hadd : Hid (addN (sumN l1) l2 = sumN (l1 ++ l2)) := by
  show _ = _
  rw [← addN_zero, ← addN_zero, addN_add]
 have hqg : q ≠ g := hq
 have hql2 : q < (w.setCell ⟨g, 259, none⟩ (.int .u64 (s + 1 : Nat))).heap.size := by simpa using hql
 clear h hr1 hr2 hok1 hok2 hcq1 hcq2 hn1 hn2 hsum hql
 go_enter Tryz.func123, Tryz.ntmps123
 go_wp2_with fail
 refine Hc.out.mono ?_
 rintro e w2 ⟨rfl, rfl⟩
 clear Hc Hr1 Hr2
 generalize (w.setCell ⟨g, 259, none⟩ (.int .u64 (s + 1 : Nat))) = w2 at *
 go_wp2
 refine wp_loop_rounds 3 ?_
 rw [rounds_succ]
 go_wp2_with fail
 refine Ha.out.mono ?_
 rintro e w3 ⟨rfl, ht3, hT3⟩
 have Ht3 := Lib.hid ht3
 have HT3 := Lib.hid hT3
 have hc3 := (World.cell?_of_block (w := w2) (w' := w3) (a := ⟨q, 1, none⟩) (ht3.grown.block q hql2 (fun e => hqg (by injection e)))).trans hc2
 clear ht3 hT3
 go_wp2
 rw [rounds_succ]
 go_wp2_with fail
 refine (Ha2.out w3 Ht3.out HT3.out).mono ?_
 rintro e w4 ⟨rfl, ht4, hT4⟩
 have Ht4 := Lib.hid ht4
 have HT4 := Lib.hid hT4
 clear ht4 hT4
 go_wp2
 rw [rounds_succ]
 go_wp2
 go_ret
 exact ⟨by rw [Hadd.out]; rfl, Ht1.out.trans (Ht3.out.trans Ht4.out), HT4.out⟩
def subA (A : Option Addr) (c lo : Nat) : Option Addr := if c = lo then A else A.map (·.add lo)
theorem sizeOfB (w : World) : (sizeOf (Tryz.prog.elem 77)).run Tryz.prog w = .ok 1 w := by kernel_rfl
theorem slB_lh (A : Option Addr) (n c lo hi : Nat) (l h : Int) (hl : l = lo) (hh : h = hi) (h1 : lo ≤ hi) (h2 : hi ≤ c) (w : World) :
  (Instr.sliceAt 77 (.slice A n c) (some (.int .i64 l)) (some (.int .i64 h)) none).run Tryz.prog w = .ok (.slice (subA A c lo) (hi - lo) (c - lo)) w := by
 subst hl; subst hh
 have hu : Tryz.prog.underlying 77 = some (.slice (Tryz.prog.elem 77)) := by kernel_rfl
 rw [run_sliceAt_slice _ _ _ _ _ _ hu, run_slice_lh _ _ _ _ _ hu .i64 .i64 (lo : Int) (hi : Int) (by omega) (by omega) (by omega), sizeOfB]
 simp [Result.andThen, sliced, subA]
theorem slB_l (A : Option Addr) (n c lo : Nat) (l : Int) (hl : l = lo) (h1 : lo ≤ n) (w : World) :
  (Instr.sliceAt 77 (.slice A n c) (some (.int .i64 l)) none none).run Tryz.prog w = .ok (.slice (subA A c lo) (n - lo) (c - lo)) w := by
 subst hl
 have hu : Tryz.prog.underlying 77 = some (.slice (Tryz.prog.elem 77)) := by kernel_rfl
 rw [run_sliceAt_slice _ _ _ _ _ _ hu, run_slice_l _ _ _ _ _ hu .i64 (lo : Int) (by omega) (by omega), sizeOfB]
 simp [Result.andThen, sliced, subA]
theorem slB_h (A : Option Addr) (n c hi : Nat) (h : Int) (hh : h = hi) (h2 : hi ≤ c) (w : World) :
  (Instr.sliceAt 77 (.slice A n c) none (some (.int .i64 h)) none).run Tryz.prog w = .ok (.slice A hi c) w := by
 subst hh
 have hu : Tryz.prog.underlying 77 = some (.slice (Tryz.prog.elem 77)) := by kernel_rfl
 rw [run_sliceAt_slice _ _ _ _ _ _ hu, run_slice_h _ _ _ _ _ hu .i64 (hi : Int) (by omega) (by omega), sizeOfB]
 cases A <;> simp [Result.andThen, sliced, Addr.add]
theorem subA_some {A : Option Addr} {c lo : Nat} (h : lo < c) {b o : Nat} (hA : A = some ⟨b, o, none⟩) : subA A c lo = some ⟨b, o + lo, none⟩ := by
 subst hA
 unfold subA
 rw [if_neg (by omega)]
 simp [Addr.add]
theorem subA_block {A : Option Addr} {c lo : Nat} {a : Addr} (h : subA A c lo = some a) : ∃ a', A = some a' ∧ a'.block = a.block := by
 unfold subA at h
 split at h
 ·exact ⟨a, h, rfl⟩
 ·cases A with
  | none => cases h
  | some a' =>
    injection h with h
    refine ⟨a', rfl, ?_⟩
    rw [← h]
    unfold Addr.add
    split <;> rfl
theorem subA_nil {A : Option Addr} {c lo : Nat} (h : subA A c lo = none) : A = none := by
 unfold subA at h
 split at h
 ·exact h
 ·cases A with
  | none => rfl
  | some a' => cases h
theorem RdB.sub {w : World} {B : Nat} {A : Option Addr} {l : List Nat} (h : RdB w B A l) {c lo : Nat} (hc : l.length ≤ c) : RdB w B (subA A c lo) (l.drop lo) := fun h0 => by
 rw [List.length_drop] at h0
 obtain ⟨b, o, e, hb, hcl⟩ := h (by omega)
 refine ⟨b, o + lo, subA_some (by omega) e, hb, fun i x hx => ?_⟩
 rw [List.getElem?_drop] at hx
 have := hcl (lo + i) x hx
 rwa [← Nat.add_assoc] at this
theorem Off.sub {A : Option Addr} {g : Nat} {l : List Nat} (h : Off A g l) {c lo : Nat} : Off (subA A c lo) g (l.drop lo) := fun h0 a ha => by
 rw [List.length_drop] at h0
 obtain ⟨a', h1, h2⟩ := subA_block ha
 have := h (by omega) a' h1
 rwa [h2] at this
theorem Off.take {A : Option Addr} {g : Nat} {l : List Nat} (h : Off A g l) (k : Nat) : Off A g (l.take k) := fun h0 a ha => h (by rw [List.length_take] at h0; omega) a ha
end Go.Proofs.YtholdcgkhicdmaaGreatDoor