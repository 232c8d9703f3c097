/- Several texts in one: FrOpen, PkRdr. -/
import Derived.Laws.Shifts
import Derived.Laws.BitsAllLaws
import Derived.Test.YtnagmopejblegaaGreatMb2
import Derived.Test.YtnagmopejblegaaGreatMb5
import Derived.Test.YtnagmopejblegaaGreatMb30
import Derived.Test.YtnagmopejblegaaGreatMb32
/- Layer 5: a frame of small numbers that comes in: how it is read. -/
namespace Go.Proofs.YtnagmopejblegaaGreat
open Go.RowKit Go.ChangeShapes Go.WideShapes
section
variable {H : Type} {enc : TypeId × Value → H} {W : World} {base : Nat} {sp : Nat → Bool} {hd : Bool}

set_option maxRecDepth 100000 in
theorem sf_cells {fuel : Nat} {cs : List Value} {x : DataW H × List MemPlace} (hf : DataW.trod enc Tryz.prog W base sp hd fuel 28 cs = some x) :
    ∃ s : Sf, cs = [.int .u8 s.k, .int .u8 s.f, .int .u8 s.t, .int .u16 s.e, .int .u16 s.q, .int .u16 s.c, .int .u16 s.l, .int .u64 s.b, .bool s.i.g, .int .u8 s.i.o, .int .u8 s.i.p, .int .u8 s.i.w, .int .u16 s.i.q, .int .u16 s.i.m, .int .u16 s.i.t, .int .u8 s.i.r, .int .u8 s.i.l, .int .u8 s.i.v, .bool s.i.s] ∧ OkSf s := by
  have hc : Tryz.prog.cellsOf 28 = 19 := by kernel_rfl
  have kS : Tryz.prog.cellsOf 26 = 11 := by kernel_rfl
  have ku8 : Tryz.prog.cellsOf 5 = 1 := by kernel_rfl
  have ku16 : Tryz.prog.cellsOf 23 = 1 := by kernel_rfl
  have ku64 : Tryz.prog.cellsOf 24 = 1 := by kernel_rfl
  obtain ⟨xs, n, _, hx, hl, hlen, hg⟩ := DataW.trod_struct Tryz.underlying28 hf
  rw [hc] at hl
  match cs, hl with
  | [c0, c1, c2, c3, c4, c5, c6, c7, c8, c9, c10, c11, c12, c13, c14, c15, c16, c17, c18], _ =>
    match xs, hlen with
    | [y0, y1, y2, y3, y4, y5, y6, y7, y8], _ =>
      have t0 : DataW.trod enc Tryz.prog W base sp hd n 5 (([c0, c1, c2, c3, c4, c5, c6, c7, c8, c9, c10, c11, c12, c13, c14, c15, c16, c17, c18].drop 0).take (Tryz.prog.cellsOf 5)) = some y0 := hg 0 _ rfl
      rw [ku8] at t0
      have t1 : DataW.trod enc Tryz.prog W base sp hd n 5 (([c0, c1, c2, c3, c4, c5, c6, c7, c8, c9, c10, c11, c12, c13, c14, c15, c16, c17, c18].drop 1).take (Tryz.prog.cellsOf 5)) = some y1 := hg 1 _ rfl
      rw [ku8] at t1
      have t2 : DataW.trod enc Tryz.prog W base sp hd n 5 (([c0, c1, c2, c3, c4, c5, c6, c7, c8, c9, c10, c11, c12, c13, c14, c15, c16, c17, c18].drop 2).take (Tryz.prog.cellsOf 5)) = some y2 := hg 2 _ rfl
      rw [ku8] at t2
      have t3 : DataW.trod enc Tryz.prog W base sp hd n 23 (([c0, c1, c2, c3, c4, c5, c6, c7, c8, c9, c10, c11, c12, c13, c14, c15, c16, c17, c18].drop 3).take (Tryz.prog.cellsOf 23)) = some y3 := hg 3 _ rfl
      rw [ku16] at t3
      have t4 : DataW.trod enc Tryz.prog W base sp hd n 23 (([c0, c1, c2, c3, c4, c5, c6, c7, c8, c9, c10, c11, c12, c13, c14, c15, c16, c17, c18].drop 4).take (Tryz.prog.cellsOf 23)) = some y4 := hg 4 _ rfl
      rw [ku16] at t4
      have t5 : DataW.trod enc Tryz.prog W base sp hd n 23 (([c0, c1, c2, c3, c4, c5, c6, c7, c8, c9, c10, c11, c12, c13, c14, c15, c16, c17, c18].drop 5).take (Tryz.prog.cellsOf 23)) = some y5 := hg 5 _ rfl
      rw [ku16] at t5
      have t6 : DataW.trod enc Tryz.prog W base sp hd n 23 (([c0, c1, c2, c3, c4, c5, c6, c7, c8, c9, c10, c11, c12, c13, c14, c15, c16, c17, c18].drop 6).take (Tryz.prog.cellsOf 23)) = some y6 := hg 6 _ rfl
      rw [ku16] at t6
      have t7 : DataW.trod enc Tryz.prog W base sp hd n 24 (([c0, c1, c2, c3, c4, c5, c6, c7, c8, c9, c10, c11, c12, c13, c14, c15, c16, c17, c18].drop 7).take (Tryz.prog.cellsOf 24)) = some y7 := hg 7 _ rfl
      rw [ku64] at t7
      have t8 : DataW.trod enc Tryz.prog W base sp hd n 26 (([c0, c1, c2, c3, c4, c5, c6, c7, c8, c9, c10, c11, c12, c13, c14, c15, c16, c17, c18].drop 8).take (Tryz.prog.cellsOf 26)) = some y8 := hg 8 _ rfl
      rw [kS] at t8
      obtain ⟨z0, e0, _, g0⟩ := DataW.trod_int Tryz.underlying5 t0
      obtain ⟨n0, rfl, h0⟩ := nat_of_u8 g0
      obtain rfl := (List.cons.inj e0).1
      obtain ⟨z1, e1, _, g1⟩ := DataW.trod_int Tryz.underlying5 t1
      obtain ⟨n1, rfl, h1⟩ := nat_of_u8 g1
      obtain rfl := (List.cons.inj e1).1
      obtain ⟨z2, e2, _, g2⟩ := DataW.trod_int Tryz.underlying5 t2
      obtain ⟨n2, rfl, h2⟩ := nat_of_u8 g2
      obtain rfl := (List.cons.inj e2).1
      obtain ⟨z3, e3, _, g3⟩ := DataW.trod_int Tryz.underlying23 t3
      obtain ⟨n3, rfl, h3⟩ := nat_of_u16 g3
      obtain rfl := (List.cons.inj e3).1
      obtain ⟨z4, e4, _, g4⟩ := DataW.trod_int Tryz.underlying23 t4
      obtain ⟨n4, rfl, h4⟩ := nat_of_u16 g4
      obtain rfl := (List.cons.inj e4).1
      obtain ⟨z5, e5, _, g5⟩ := DataW.trod_int Tryz.underlying23 t5
      obtain ⟨n5, rfl, h5⟩ := nat_of_u16 g5
      obtain rfl := (List.cons.inj e5).1
      obtain ⟨z6, e6, _, g6⟩ := DataW.trod_int Tryz.underlying23 t6
      obtain ⟨n6, rfl, h6⟩ := nat_of_u16 g6
      obtain rfl := (List.cons.inj e6).1
      obtain ⟨z7, e7, _, g7⟩ := DataW.trod_int Tryz.underlying24 t7
      obtain ⟨n7, rfl, h7⟩ := nat_of_u64 g7
      obtain rfl := (List.cons.inj e7).1
      obtain ⟨s8, e8, h8⟩ := small_cells t8
      have e8' : [c8, c9, c10, c11, c12, c13, c14, c15, c16, c17, c18] = _ := e8
      refine ⟨⟨n0, n1, n2, n3, n4, n5, n6, n7, s8⟩, ?_, ⟨h0, h1, h2, h3, h4, h5, h6, h7, h8⟩⟩
      rw [show [.int .u8 n0, .int .u8 n1, .int .u8 n2, .int .u16 n3, .int .u16 n4, .int .u16 n5, .int .u16 n6, .int .u64 n7, c8, c9, c10, c11, c12, c13, c14, c15, c16, c17, c18] = [.int .u8 n0, .int .u8 n1, .int .u8 n2, .int .u16 n3, .int .u16 n4, .int .u16 n5, .int .u16 n6, .int .u64 n7] ++ [c8, c9, c10, c11, c12, c13, c14, c15, c16, c17, c18] from rfl, e8']
      rfl
set_option maxRecDepth 100000 in
theorem open_sf {r : Reach} {b0 : Nat} {v : Value} {d : DataW H} {ps : List MemPlace}
    (hval : Value.okWide Tryz.prog W r b0 28 v) (h0 : DataW.Trod enc Tryz.prog W base sp hd 28 v d ps) :
    ∃ s : Sf, v = .agg #[.int .u8 s.k, .int .u8 s.f, .int .u8 s.t, .int .u16 s.e, .int .u16 s.q, .int .u16 s.c, .int .u16 s.l, .int .u64 s.b, .bool s.i.g, .int .u8 s.i.o, .int .u8 s.i.p, .int .u8 s.i.w, .int .u16 s.i.q, .int .u16 s.i.m, .int .u16 s.i.t, .int .u8 s.i.r, .int .u8 s.i.l, .int .u8 s.i.v, .bool s.i.s] ∧ OkSf s := by
  obtain ⟨cs, rfl, _⟩ := okWide_struct Tryz.underlying28 hval
  obtain ⟨fuel, hf⟩ := h0
  obtain ⟨s, hs, hok⟩ := sf_cells hf
  refine ⟨s, ?_, hok⟩
  have : cs.toList = _ := hs
  rw [show cs = cs.toList.toArray by simp, this]
end
end Go.Proofs.YtnagmopejblegaaGreat
/- Layer 3: pack.Reader: what it holds; its calls Left, Err, Fail, Byte, Done; those of a nil one. -/
namespace Go.Proofs.YtnagmopejblegaaGreat
open Go.RowKit

/-- the Reader at block g: the bytes that are left, its error -/
structure Rdr (w : World) (g : Nat) (l : List Nat) (er : Int) : Prop where
  lt : g < w.heap.size
  c0 : ∃ A n c, w.cell? ⟨g, 0, none⟩ = some (.slice A n c) ∧ Hid (n = l.length) ∧ n ≤ c ∧ Hid (A = none → n = 0 ∧ c = 0) ∧ RdB w g A l ∧ n ≤ 2097152 ∧ (∀ a, A = some a → ∃ b o, a = ⟨b, o, none⟩)
  c1 : w.cell? ⟨g, 1, none⟩ = some (.int .i64 er)
  f0 : w.frozen? ⟨g, 0, none⟩ = false
  f1 : w.frozen? ⟨g, 1, none⟩ = false
  ok : OkB l
  none_ : er ≠ 0 → l = []

section
variable {w w' : World} {g : Nat} {l : List Nat} {er : Int}
theorem Rdr.keep (h : Rdr w g l er) (hb : w'.heap.size ≥ w.heap.size) (hk : ∀ k, k ≤ g → w'.heap[k]? = w.heap[k]?) : Rdr w' g l er := by
  obtain ⟨h1, ⟨A, n, c, h2, h3, h4, h5, h6, h7⟩, h8, h9, h10, h11, h12⟩ := h
  have hc : ∀ o, w'.cell? ⟨g, o, none⟩ = w.cell? ⟨g, o, none⟩ := fun o => World.cell?_of_block (hk g (Nat.le_refl _))
  have hf : ∀ o, w'.frozen? ⟨g, o, none⟩ = w.frozen? ⟨g, o, none⟩ := fun o => World.frozen?_of_block (hk g (Nat.le_refl _))
  exact ⟨by omega, ⟨A, n, c, (hc 0).trans h2, h3, h4, h5, h6.keep fun p hp => World.cell?_of_block (hk _ (by omega)), h7⟩, (hc 1).trans h8, (hf 0).trans h9, (hf 1).trans h10, h11, h12⟩
theorem Rdr.below (h : Rdr w g l er) (hb : Below w.heap.size w w') : Rdr w' g l er := h.keep hb.size fun k hk => hb.block k (by have := h.lt; omega)
theorem Rdr.other (h : Rdr w g l er) {g2 : Nat} (hg : w.grownBy w' (some g2)) (hne : g < g2) : Rdr w' g l er := h.keep hg.size fun k hk => hg.block k (by have := h.lt; omega) (by simp; omega)
/-- its slice turned: the bytes that are left then -/
theorem Rdr.cut (h : Rdr w g l er) {A : Option Addr} {n c : Nat} {l2 : List Nat} (hn : n = l2.length) (hc : n ≤ c) (hA : A = none → n = 0 ∧ c = 0) (hr : RdB w g A l2) (hm : n ≤ 2097152) (hs : ∀ a, A = some a → ∃ b o, a = ⟨b, o, none⟩) (hok : OkB l2) (he : er ≠ 0 → l2 = []) : Rdr (w.setCell ⟨g, 0, none⟩ (.slice A n c)) g l2 er := by
  obtain ⟨h1, ⟨A0, n0, c0, h2, h3, h4, h5, h6, h7⟩, h8, h9, h10, h11, h12⟩ := h
  exact ⟨by simpa using h1, ⟨A, n, c, World.cell?_setCell_same _ _ _ h2, hn, hc, hA, hr.keep fun p hp => World.cell?_setCell_other _ _ _ _ (fun e => by rw [← e] at hp; simp at hp), hm, hs⟩, (World.cell?_setCell_other _ ⟨g, 0, none⟩ ⟨g, 1, none⟩ _ (by simp)).trans h8, by simpa using h9, by simpa using h10, hok, he⟩
/-- its error laid, nothing left -/
theorem Rdr.failed (h : Rdr w g l er) (e : Int) : Rdr ((w.setCell ⟨g, 0, none⟩ (.slice none 0 0)).setCell ⟨g, 1, none⟩ (.int .i64 e)) g [] e := by
  obtain ⟨h1, ⟨A0, n0, c0, h2, h3, h4, h5, h6, h7⟩, h8, h9, h10, h11, h12⟩ := h
  exact ⟨by simpa using h1, ⟨none, 0, 0, (World.cell?_setCell_other _ ⟨g, 1, none⟩ ⟨g, 0, none⟩ _ (by simp)).trans (World.cell?_setCell_same _ _ _ h2), rfl, Nat.le_refl _, fun _ => ⟨rfl, rfl⟩, RdB.empty, by omega, fun a e => (by cases e)⟩, World.cell?_setCell_same _ _ _ ((World.cell?_setCell_other _ ⟨g, 0, none⟩ ⟨g, 1, none⟩ _ (by simp)).trans h8), by simpa using h9, by simpa using h10, OkB.nil, fun _ => rfl⟩
end
theorem grown_set (w : World) (g o : Nat) (v : Value) : w.grownBy (w.setCell ⟨g, o, none⟩ v) (some g) := ⟨rfl, rfl, rfl, by simp, fun k _ hne => Below.heap_setCell _ _ _ k (fun e => hne (by rw [e]))⟩

set_option maxHeartbeats 400000 in
theorem rleft_any (g : Nat) (l : List Nat) (er : Int) (w : World) (h : Rdr w g l er) :
    Calls Tryz.prog 44 #[.pointer (some ⟨g, 0, none⟩)] w fun e w' => e = .returned (.int .i64 (l.length : Nat)) ∧ w = w' := by
  obtain ⟨A, n, c, hc, hn, _⟩ := h.c0
  clear h
  go_enter Tryz.func44, Tryz.ntmps44
  go_wp2
  go_ret
  exact ⟨by rw [← hn.out]; rfl, rfl⟩
set_option maxHeartbeats 400000 in
theorem rleft_nil (w : World) :
    Calls Tryz.prog 44 #[.pointer none] w fun e w' => e = .returned (.int .i64 0) ∧ w = w' := by
  go_enter Tryz.func44, Tryz.ntmps44
  go_wp2
  go_ret
  exact ⟨rfl, rfl⟩
set_option maxHeartbeats 400000 in
theorem rerr_any (g : Nat) (l : List Nat) (er : Int) (w : World) (h : Rdr w g l er) :
    Calls Tryz.prog 45 #[.pointer (some ⟨g, 0, none⟩)] w fun e w' => e = .returned (.int .i64 er) ∧ w = w' := by
  have hc := h.c1
  clear h
  go_enter Tryz.func45, Tryz.ntmps45
  go_wp2
  go_ret
  exact ⟨rfl, rfl⟩
set_option maxHeartbeats 400000 in
theorem rerr_nil (w : World) :
    Calls Tryz.prog 45 #[.pointer none] w fun e w' => e = .returned (.int .i64 1) ∧ w = w' := by
  go_enter Tryz.func45, Tryz.ntmps45
  go_wp2
  go_ret
  exact ⟨rfl, rfl⟩
set_option maxHeartbeats 400000 in
theorem rfail_nil (z : Int) (w : World) :
    Calls Tryz.prog 41 #[.pointer none, .int .i64 z] w fun e w' => e = .returned (.tuple #[]) ∧ w = w' := by
  go_enter Tryz.func41, Tryz.ntmps41
  go_wp2
  refine bodyPost_ret (results_none rfl _ _ _) rfl ?_
  exact ⟨rfl, rfl⟩
set_option maxHeartbeats 400000 in
/-- Fail where nothing is to be laid -/
theorem rfail_keep (g : Nat) (l : List Nat) (er z : Int) (hz : er ≠ 0 ∨ z = 0) (w : World) (h : Rdr w g l er) :
    Calls Tryz.prog 41 #[.pointer (some ⟨g, 0, none⟩), .int .i64 z] w fun e w' => e = .returned (.tuple #[]) ∧ w = w' := by
  have hc := h.c1
  clear h
  by_cases he : er = 0
  · subst he
    obtain rfl : z = 0 := by omega
    go_enter Tryz.func41, Tryz.ntmps41
    go_wp2
    refine bodyPost_ret (results_none rfl _ _ _) rfl ?_
    exact ⟨rfl, rfl⟩
  · have he2 : (er != 0) = true := by simpa using he
    clear he hz
    go_enter Tryz.func41, Tryz.ntmps41
    go_wp2
    refine bodyPost_ret (results_none rfl _ _ _) rfl ?_
    exact ⟨rfl, rfl⟩
set_option maxHeartbeats 400000 in
/-- Fail where there is no error yet -/
theorem rfail_set (g : Nat) (l : List Nat) (z : Int) (hz : z ≠ 0) (w : World) (h : Rdr w g l 0) :
    Calls Tryz.prog 41 #[.pointer (some ⟨g, 0, none⟩), .int .i64 z] w fun e w' => e = .returned (.tuple #[]) ∧ Rdr w' g [] z ∧ w.grownBy w' (some g) := by
  have hc := h.c1
  have f0 := h.f0
  have f1 := h.f1
  obtain ⟨A, n, c, c0, _⟩ := h.c0
  have H := Lib.hid h
  clear h
  have hz2 : (z == 0) = false := by simpa using hz
  clear hz
  go_enter Tryz.func41, Tryz.ntmps41
  go_wp2
  go_end0
  exact ⟨rfl, H.out.failed z, grownBy_trans (grown_set _ _ _ _) (grown_set _ _ _ _)⟩

set_option maxHeartbeats 400000 in
theorem rbyte_err (g : Nat) (er : Int) (he : er ≠ 0) (w : World) (h : Rdr w g [] er) :
    Calls Tryz.prog 40 #[.pointer (some ⟨g, 0, none⟩)] w fun e w' => e = .returned (.int .u8 0) ∧ w = w' := by
  have H := Lib.hid h
  clear h
  go_enter Tryz.func40, Tryz.ntmps40
  go_wp2_with fail
  refine (rleft_any g [] er w H.out).mono ?_
  rintro e w1 ⟨rfl, rfl⟩
  go_wp2_with fail
  refine (rfail_keep g [] er 3 (.inl he) w H.out).mono ?_
  rintro e w1 ⟨rfl, rfl⟩
  go_wp2
  go_ret
  exact ⟨rfl, rfl⟩
set_option maxHeartbeats 400000 in
theorem rbyte_short (g : Nat) (w : World) (h : Rdr w g [] 0) :
    Calls Tryz.prog 40 #[.pointer (some ⟨g, 0, none⟩)] w fun e w' => e = .returned (.int .u8 0) ∧ Rdr w' g [] 3 ∧ w.grownBy w' (some g) := by
  have H := Lib.hid h
  clear h
  go_enter Tryz.func40, Tryz.ntmps40
  go_wp2_with fail
  refine (rleft_any g [] 0 w H.out).mono ?_
  rintro e w1 ⟨rfl, rfl⟩
  go_wp2_with fail
  refine (rfail_set g [] 3 (by decide) w H.out).mono ?_
  rintro e w1 ⟨rfl, h1, h2⟩
  have H1 := Lib.hid h1
  have H2 := Lib.hid h2
  clear h1 h2
  go_wp2
  go_ret
  exact ⟨rfl, H1.out, H2.out⟩
set_option maxHeartbeats 400000 in
theorem rbyte_nil (w : World) :
    Calls Tryz.prog 40 #[.pointer none] w fun e w' => e = .returned (.int .u8 0) ∧ w = w' := by
  go_enter Tryz.func40, Tryz.ntmps40
  go_wp2_with fail
  refine (rleft_nil w).mono ?_
  rintro e w1 ⟨rfl, rfl⟩
  go_wp2_with fail
  refine (rfail_nil 3 w).mono ?_
  rintro e w1 ⟨rfl, rfl⟩
  go_wp2
  go_ret
  exact ⟨rfl, rfl⟩
set_option maxHeartbeats 400000 in
theorem rbyte_cons (g : Nat) (x : Nat) (l : List Nat) (w : World) (h : Rdr w g (x :: l) 0) :
    Calls Tryz.prog 40 #[.pointer (some ⟨g, 0, none⟩)] w fun e w' => e = .returned (.int .u8 x) ∧ Rdr w' g l 0 ∧ w.grownBy w' (some g) := by
  have H := Lib.hid h
  have f0 := h.f0
  obtain ⟨A, n, c, c0, hn, hnc, hA, hr, hm, hs⟩ := h.c0
  obtain ⟨b, o, rfl, hb, hcs⟩ := hr (by simp)
  have cx : w.cell? ⟨b, o, none⟩ = some (.int .u8 x) := hcs 0 x rfl
  have Hcs := Lib.hid hcs
  have Hr := Lib.hid hr
  have hpos : 0 < n := by rw [hn.out]; simp
  obtain ⟨m, rfl⟩ : ∃ m, n = m + 1 := ⟨n - 1, by omega⟩
  clear h hcs hr hs
  go_enter Tryz.func40, Tryz.ntmps40
  go_wp2_with fail
  refine (rleft_any g (x :: l) 0 w H.out).mono ?_
  rintro e w1 ⟨rfl, rfl⟩
  go_wp2
  · go_ret
    have hl : m = l.length := by have := hn.out; simpa using this
    obtain rfl : l = [] := List.eq_nil_of_length_eq_zero (by omega)
    obtain rfl : m = 0 := by simpa using hl
    exact ⟨rfl, H.out.cut rfl (Nat.le_refl _) (fun e => by cases e) RdB.empty (by omega) (fun a e => by cases e; exact ⟨_, _, rfl⟩) OkB.nil (fun _ => rfl), grown_set _ _ _ _⟩
  · go_ret
    have hl : m = l.length := by have := hn.out; simpa using this
    exact ⟨rfl, H.out.cut hl (by omega) (fun e => by cases e) (Hr.out.drop 1) (by omega) (fun a e => by cases e; exact ⟨_, _, rfl⟩) (fun y hy => H.out.ok y (by simp [hy])) (fun e => absurd rfl e), grown_set _ _ _ _⟩
end Go.Proofs.YtnagmopejblegaaGreat
