/- The walk of watchfirelaw05.FrameSame. -/
import Derived.Test.YtnagmopejblegaaMa37
import Derived.Test.YtnagmopejblegaaMa50
import Derived.Test.YtnagmopejblegaaMa19
import Derived.Test.YtnagmopejblegaaMa47
import Derived.Deep.DeepCutAuto
namespace Go.Proofs.Ytnagmopejblegaa.frameSame
open Go.RowKit Go.Proofs.Ytnagmopejblegaa

theorem conv_own {w : World} {base : Nat} {v : Value} {l : List Nat} (h : w.ownsRow base 5 1 v l.length (cellsB l)) :
    (convert 31 9 v).run Try.prog w = .ok (.string (strB l)) w := by
  obtain ⟨A, c, rfl⟩ := ownB_slice h
  refine conv_any (RdB.of_own h) rfl (fun hA => ?_)
  subst hA
  rcases h.2 with ⟨_, e⟩ | ⟨g, cap, cur, e, _⟩
  · exact e
  · injection e with e1 _ _; cases e1
theorem same_self (x : Fr) (A : Option Addr) (n c : Nat) (A2 : Option Addr) (n2 c2 : Nat) (w : World) (hn : n = x.i.l.length) (hn2 : n2 = x.i.l.length) (hm : n ≤ maxLen) (hr : RdP w w.heap.size A x.i.l) (hr2 : RdP w w.heap.size A2 x.i.l) :
    Calls Try.prog 11 #[.agg #[.int .u8 x.k, .int .u8 x.f, .int .u8 x.t, .int .u64 x.e, .int .u64 x.q, .bool x.i.g, .int .u8 x.i.o, .int .u64 x.i.q, .int .u64 x.i.t, .string x.i.r, .slice A n c, .int .u8 x.i.s, .int .u8 x.i.p, .int .i64 x.i.v, .int .u8 x.i.w, .int .u8 x.i.ga, .int .u64 x.i.gf, .int .u64 x.i.gt, .int .u64 x.c, .int .u64 x.b, .int .u64 x.l], .agg #[.int .u8 x.k, .int .u8 x.f, .int .u8 x.t, .int .u64 x.e, .int .u64 x.q, .bool x.i.g, .int .u8 x.i.o, .int .u64 x.i.q, .int .u64 x.i.t, .string x.i.r, .slice A2 n2 c2, .int .u8 x.i.s, .int .u8 x.i.p, .int .i64 x.i.v, .int .u8 x.i.w, .int .u8 x.i.ga, .int .u64 x.i.gf, .int .u64 x.i.gt, .int .u64 x.c, .int .u64 x.b, .int .u64 x.l]] w fun e w' => e = .returned (.bool true) ∧ Below w.heap.size w w' :=
  (frameSame_any x x A n c A2 n2 c2 w hn hn2 hm hr hr2).mono fun e w' h => ⟨by rw [h.1, sameF_refl], h.2⟩
theorem same_as (x y : Fr) (b : Bool) (hb : sameF x y = b) (A : Option Addr) (n c : Nat) (A2 : Option Addr) (n2 c2 : Nat) (w : World) (hn : n = x.i.l.length) (hn2 : n2 = y.i.l.length) (hm : n ≤ maxLen) (hr : RdP w w.heap.size A x.i.l) (hr2 : RdP w w.heap.size A2 y.i.l) :
    Calls Try.prog 11 #[.agg #[.int .u8 x.k, .int .u8 x.f, .int .u8 x.t, .int .u64 x.e, .int .u64 x.q, .bool x.i.g, .int .u8 x.i.o, .int .u64 x.i.q, .int .u64 x.i.t, .string x.i.r, .slice A n c, .int .u8 x.i.s, .int .u8 x.i.p, .int .i64 x.i.v, .int .u8 x.i.w, .int .u8 x.i.ga, .int .u64 x.i.gf, .int .u64 x.i.gt, .int .u64 x.c, .int .u64 x.b, .int .u64 x.l], .agg #[.int .u8 y.k, .int .u8 y.f, .int .u8 y.t, .int .u64 y.e, .int .u64 y.q, .bool y.i.g, .int .u8 y.i.o, .int .u64 y.i.q, .int .u64 y.i.t, .string y.i.r, .slice A2 n2 c2, .int .u8 y.i.s, .int .u8 y.i.p, .int .i64 y.i.v, .int .u8 y.i.w, .int .u8 y.i.ga, .int .u64 y.i.gf, .int .u64 y.i.gt, .int .u64 y.c, .int .u64 y.b, .int .u64 y.l]] w fun e w' => e = .returned (.bool b) ∧ Below w.heap.size w w' :=
  (frameSame_any x y A n c A2 n2 c2 w hn hn2 hm hr hr2).mono fun e w' h => ⟨by rw [h.1, hb], h.2⟩
theorem exec_load_row {P : Program} {o : Oper} {ev : Operand → Value} {w : World} (ty : TypeId) (x : Operand) (ho : o.op = .load ty x)
    (g : Nat) (hx : ev x = .pointer (some ⟨g, 0, none⟩)) (t : TypeId) (cs : Array Value) (fr : Nat × Nat) (d : TypeDesc) (hg : w.heap[g]? = some (.cells cs t fr))
    (hu : P.underlying ty = some d) (hd : (match d with | .struct _ | .array _ _ => true | _ => false) = true) (hi : (P.info? ty).map (·.size) = some cs.size) :
    (execOp ev o).run P w = .ok (.value (.agg cs)) w := by
  unfold execOp
  simp only [ho, hx, Instr.loadAt, Instr.sureAddr, Sem.run_bind, Sem.run_pure, Result.andThen_ok, run_loadVar_row w g t ty cs fr d hg hu hd hi]
theorem Try.infoTS : (Try.prog.info? 27).map (·.size) = some 19 := by kernel_rfl
theorem frB_ok {x : Fr} (hx : OkF x) (hs : ShortF x) : OkB (frB x) := (bodyF_ok hx hs).append (okB_four _)

set_option maxRecDepth 100000 in
set_option maxHeartbeats 8000000 in
theorem walk (s u : Sf) (hs : OkSf s) (hu : OkSf u) (w0 : World) :
    Calls Try.prog 4 #[.agg #[.int .u8 s.k, .int .u8 s.f, .int .u8 s.t, .int .u16 s.e, .int .u16 s.q, .int .u16 s.c, .int .u16 s.l, .int .u64 s.b, .bool s.i.g, .int .u8 s.i.o, .int .u8 s.i.p, .int .u8 s.i.w, .int .u16 s.i.q, .int .u16 s.i.m, .int .u16 s.i.t, .int .u8 s.i.r, .int .u8 s.i.l, .int .u8 s.i.v, .bool s.i.s], .agg #[.int .u8 u.k, .int .u8 u.f, .int .u8 u.t, .int .u16 u.e, .int .u16 u.q, .int .u16 u.c, .int .u16 u.l, .int .u64 u.b, .bool u.i.g, .int .u8 u.i.o, .int .u8 u.i.p, .int .u8 u.i.w, .int .u16 u.i.q, .int .u16 u.i.m, .int .u16 u.i.t, .int .u8 u.i.r, .int .u8 u.i.l, .int .u8 u.i.v, .bool u.i.s]] w0 fun e w' => e = .returned (.bool true) ∧ Below w0.heap.size w0 w' := by
  have hba : Below w0.heap.size w0 ((w0.alloc (.cells #[.int .u8 s.k, .int .u8 s.f, .int .u8 s.t, .int .u16 s.e, .int .u16 s.q, .int .u16 s.c, .int .u16 s.l, .int .u64 s.b, .bool s.i.g, .int .u8 s.i.o, .int .u8 s.i.p, .int .u8 s.i.w, .int .u16 s.i.q, .int .u16 s.i.m, .int .u16 s.i.t, .int .u8 s.i.r, .int .u8 s.i.l, .int .u8 s.i.v, .bool s.i.s] 27)).alloc (.cells #[.int .u8 u.k, .int .u8 u.f, .int .u8 u.t, .int .u16 u.e, .int .u16 u.q, .int .u16 u.c, .int .u16 u.l, .int .u64 u.b, .bool u.i.g, .int .u8 u.i.o, .int .u8 u.i.p, .int .u8 u.i.w, .int .u16 u.i.q, .int .u16 u.i.m, .int .u16 u.i.t, .int .u8 u.i.r, .int .u8 u.i.l, .int .u8 u.i.v, .bool u.i.s] 27)) := ((Below.refl _ _).alloc (Nat.le_refl _) _).alloc (by simp) _
  have K0 := Lib.hid (heap_alloc2_old w0 (.cells #[.int .u8 s.k, .int .u8 s.f, .int .u8 s.t, .int .u16 s.e, .int .u16 s.q, .int .u16 s.c, .int .u16 s.l, .int .u64 s.b, .bool s.i.g, .int .u8 s.i.o, .int .u8 s.i.p, .int .u8 s.i.w, .int .u16 s.i.q, .int .u16 s.i.m, .int .u16 s.i.t, .int .u8 s.i.r, .int .u8 s.i.l, .int .u8 s.i.v, .bool s.i.s] 27) (.cells #[.int .u8 u.k, .int .u8 u.f, .int .u8 u.t, .int .u16 u.e, .int .u16 u.q, .int .u16 u.c, .int .u16 u.l, .int .u64 u.b, .bool u.i.g, .int .u8 u.i.o, .int .u8 u.i.p, .int .u8 u.i.w, .int .u16 u.i.q, .int .u16 u.i.m, .int .u16 u.i.t, .int .u8 u.i.r, .int .u8 u.i.l, .int .u8 u.i.v, .bool u.i.s] 27))
  have K1 := Lib.hid (heap_alloc2_new w0 (.cells #[.int .u8 s.k, .int .u8 s.f, .int .u8 s.t, .int .u16 s.e, .int .u16 s.q, .int .u16 s.c, .int .u16 s.l, .int .u64 s.b, .bool s.i.g, .int .u8 s.i.o, .int .u8 s.i.p, .int .u8 s.i.w, .int .u16 s.i.q, .int .u16 s.i.m, .int .u16 s.i.t, .int .u8 s.i.r, .int .u8 s.i.l, .int .u8 s.i.v, .bool s.i.s] 27) (.cells #[.int .u8 u.k, .int .u8 u.f, .int .u8 u.t, .int .u16 u.e, .int .u16 u.q, .int .u16 u.c, .int .u16 u.l, .int .u64 u.b, .bool u.i.g, .int .u8 u.i.o, .int .u8 u.i.p, .int .u8 u.i.w, .int .u16 u.i.q, .int .u16 u.i.m, .int .u16 u.i.t, .int .u8 u.i.r, .int .u8 u.i.l, .int .u8 u.i.v, .bool u.i.s] 27))
  have Hba := Lib.hid hba
  have HS1 := Lib.hid hs
  have HS2 := Lib.hid hu
  obtain ⟨x, hx⟩ : ∃ x, smallF s = x := ⟨_, rfl⟩
  obtain ⟨y, hy⟩ : ∃ y, smallF u = y := ⟨_, rfl⟩
  have HX1 := Lib.hid hx
  have HX2 := Lib.hid hy
  clear hba hs hu hx hy
  go_enter Try.func4, Try.ntmps4
  go_wp2_with fail
  refine (fawake_any _).mono ?_
  rintro e w1 ⟨rfl, hb1⟩
  have HC1 : Hid (∀ V, Below w1.heap.size w1 V → V.heap[w0.heap.size]? = some (.cells #[.int .u8 s.k, .int .u8 s.f, .int .u8 s.t, .int .u16 s.e, .int .u16 s.q, .int .u16 s.c, .int .u16 s.l, .int .u64 s.b, .bool s.i.g, .int .u8 s.i.o, .int .u8 s.i.p, .int .u8 s.i.w, .int .u16 s.i.q, .int .u16 s.i.m, .int .u16 s.i.t, .int .u8 s.i.r, .int .u8 s.i.l, .int .u8 s.i.v, .bool s.i.s] 27 (0, 0))) := fun V hV => (hV.block _ (by have := hb1.size; simp at this; omega)).trans ((hb1.block _ (by simp; omega)).trans K0.out)
  have HC2 : Hid (∀ V, Below w1.heap.size w1 V → V.heap[w0.heap.size + 1]? = some (.cells #[.int .u8 u.k, .int .u8 u.f, .int .u8 u.t, .int .u16 u.e, .int .u16 u.q, .int .u16 u.c, .int .u16 u.l, .int .u64 u.b, .bool u.i.g, .int .u8 u.i.o, .int .u8 u.i.p, .int .u8 u.i.w, .int .u16 u.i.q, .int .u16 u.i.m, .int .u16 u.i.t, .int .u8 u.i.r, .int .u8 u.i.l, .int .u8 u.i.v, .bool u.i.s] 27 (0, 0))) := fun V hV => (hV.block _ (by have := hb1.size; simp at this; omega)).trans ((hb1.block _ (by simp)).trans K1.out)
  have Hb1 := Lib.hid (Hba.out.trans (hb1.mono Hba.out.size))
  have hw1 := Hb1.out.size
  clear hb1 K0 K1 Hba
  go_upto_region 3 with fail
  go_cut [5, 6] (fun p q wx => ∃ X Y A n c A2 n2 c2, p = .pointer (some ⟨X, 0, none⟩) ∧ q = .pointer (some ⟨Y, 0, none⟩) ∧ FXY w0 wx x y X Y A n c A2 n2 c2 44 101)
  case first =>
    refine wp_region_noPanic ?_
    refine wp_region_held_drew (S := (fun V => Below w1.heap.size w1 V)) (by kernel_rfl) ?_ (fun hHeld => ?_)
    · exact (Below.refl _ _).drew
    refine heldTake (i := 0) (v := .agg #[.int .u8 s.k, .int .u8 s.f, .int .u8 s.t, .int .u16 s.e, .int .u16 s.q, .int .u16 s.c, .int .u16 s.l, .int .u64 s.b, .bool s.i.g, .int .u8 s.i.o, .int .u8 s.i.p, .int .u8 s.i.w, .int .u16 s.i.q, .int .u16 s.i.m, .int .u16 s.i.t, .int .u8 s.i.r, .int .u8 s.i.l, .int .u8 s.i.v, .bool s.i.s]) rfl (by kernel_rfl) (by kernel_rfl) (by kernel_rfl) (fun _ _ _ h => h) (Or.inl ⟨by rfl, ?_⟩) (by assumption) ?_
    · (intro w hSw; exact exec_load_row 27 _ rfl (w0.heap.size) rfl _ _ _ _ (HC1.out _ hSw) Try.underlying27 rfl Try.infoTS)
    try simp only [heldPut, List.set]
    refine heldTake (i := 2) (v := .agg #[.int .u8 u.k, .int .u8 u.f, .int .u8 u.t, .int .u16 u.e, .int .u16 u.q, .int .u16 u.c, .int .u16 u.l, .int .u64 u.b, .bool u.i.g, .int .u8 u.i.o, .int .u8 u.i.p, .int .u8 u.i.w, .int .u16 u.i.q, .int .u16 u.i.m, .int .u16 u.i.t, .int .u8 u.i.r, .int .u8 u.i.l, .int .u8 u.i.v, .bool u.i.s]) rfl (by kernel_rfl) (by kernel_rfl) (by kernel_rfl) (fun _ _ _ h => h) (Or.inl ⟨by rfl, ?_⟩) (by assumption) ?_
    · (intro w hSw; exact exec_load_row 27 _ rfl (w0.heap.size + 1) rfl _ _ _ _ (HC2.out _ hSw) Try.underlying27 rfl Try.infoTS)
    try simp only [heldPut, List.set]
    have hz0 : w1.heap.size ≤ w1.drew.heap.size := Nat.le_refl _
    generalize hw2 : w1.drew = w2 at *
    clear hw2
    refine heldThree (i := 1) (j := 4) (k := 5) rfl rfl rfl (by kernel_rfl) (fun K hK => ?g1_1) (fun K hK => ?g1_4) (fun K hK => ?g1_5)
    case g1_1 =>
      go_simp
      refine (smallF_as HX1.out HS1.out _).mono ?_
      rintro e V2 ⟨A1, n1, c1, rfl, hn1, ho1, hb2⟩
      have HN1 := Lib.hid hn1
      clear hn1
      go_wp2_with fail
      refine hK.out _ _ ?_ (fun hh2 => ?_)
      · exact (hHeld.trans (hb2.mono (hHeld.size)))
      clear hK K
      try simp only [heldPut, List.set]
      have hz2 := hb2.size
      have HL1 : Hid (∀ k, (Value.slice A1 n1 c1).ownBlock = some k → w2.heap.size ≤ k ∧ k < V2.heap.size) := fun k e => ho1.lt k e
      refine heldMore (S2 := (fun V : World => Below w1.heap.size w1 V ∧ V.ownsRow w2.heap.size 101 2 (.slice A1 n1 c1) n1 (cellsP x.i.l))) (fun _ h => h.1) ?_
      have hh2' : (fun V : World => Below w1.heap.size w1 V ∧ V.ownsRow w2.heap.size 101 2 (.slice A1 n1 c1) n1 (cellsP x.i.l)) V2 := ⟨hh2, ho1⟩
      clear hh2 ho1 hb2
      refine heldThree (i := 3) (j := 4) (k := 5) rfl rfl rfl (by kernel_rfl) (fun K hK => ?g3_3) (fun K hK => ?g3_4) (fun K hK => ?g3_5)
      case g3_3 =>
        go_simp
        refine (smallF_as HX2.out HS2.out _).mono ?_
        rintro e V4 ⟨A2, n2, c2, rfl, hn2, ho2, hb4⟩
        have HN2 := Lib.hid hn2
        clear hn2
        go_wp2_with fail
        refine hK.out _ _ ?_ (fun hh4 => ?_)
        · exact ⟨(hh2'.1.trans (hb4.mono (hh2'.1.size))), (own_below hh2'.2 hb4)⟩
        clear hK K
        try simp only [heldPut, List.set]
        have hz4 := hb4.size
        have HL2 : Hid (∀ k, (Value.slice A2 n2 c2).ownBlock = some k → V2.heap.size ≤ k ∧ k < V4.heap.size) := fun k e => ho2.lt k e
        refine heldMore (S2 := (fun V : World => Below w1.heap.size w1 V ∧ V.ownsRow w2.heap.size 101 2 (.slice A1 n1 c1) n1 (cellsP x.i.l) ∧ V.ownsRow V2.heap.size 101 2 (.slice A2 n2 c2) n2 (cellsP y.i.l))) (fun _ h => ⟨h.1, h.2.1⟩) ?_
        have hh4' : (fun V : World => Below w1.heap.size w1 V ∧ V.ownsRow w2.heap.size 101 2 (.slice A1 n1 c1) n1 (cellsP x.i.l) ∧ V.ownsRow V2.heap.size 101 2 (.slice A2 n2 c2) n2 (cellsP y.i.l)) V4 := ⟨hh4.1, hh4.2, ho2⟩
        clear hh4 ho2 hb4
        refine heldTwo (i := 4) (j := 5) rfl rfl (by kernel_rfl) (fun K hK => ?g5_4) (fun K hK => ?g5_5)
        case' g5_4 =>
          have hb6 : Below V4.heap.size V4 (V4.alloc (.cells #[.int .u8 0, .int .u8 0, .int .u8 0, .int .u64 0, .int .u64 0, .bool false, .int .u8 0, .int .u64 0, .int .u64 0, .string ⟨#[]⟩, .slice none 0 0, .int .u8 0, .int .u8 0, .int .i64 0, .int .u8 0, .int .u8 0, .int .u64 0, .int .u64 0, .int .u64 0, .int .u64 0, .int .u64 0] 44)) := (Below.refl _ _).alloc (Nat.le_refl _) _
          go_simp
          refine hK.out _ _ ?_ (fun hh6 => ?_)
          · exact ⟨(hh4'.1.trans (hb6.mono (hh4'.1.size))), (own_below hh4'.2.1 hb6), (own_below hh4'.2.2 hb6)⟩
          clear hK K
          try simp only [heldPut, List.set]
          have hc6 : CellsF (V4.alloc (.cells #[.int .u8 0, .int .u8 0, .int .u8 0, .int .u64 0, .int .u64 0, .bool false, .int .u8 0, .int .u64 0, .int .u64 0, .string ⟨#[]⟩, .slice none 0 0, .int .u8 0, .int .u8 0, .int .i64 0, .int .u8 0, .int .u8 0, .int .u64 0, .int .u64 0, .int .u64 0, .int .u64 0, .int .u64 0] 44)) V4.heap.size 44 := CellsF.new _ _ _ rfl
          have hz6 : (V4.alloc (.cells #[.int .u8 0, .int .u8 0, .int .u8 0, .int .u64 0, .int .u64 0, .bool false, .int .u8 0, .int .u64 0, .int .u64 0, .string ⟨#[]⟩, .slice none 0 0, .int .u8 0, .int .u8 0, .int .i64 0, .int .u8 0, .int .u8 0, .int .u64 0, .int .u64 0, .int .u64 0, .int .u64 0, .int .u64 0] 44)).heap.size = V4.heap.size + 1 := by simp
          generalize hV6 : V4.alloc (.cells #[.int .u8 0, .int .u8 0, .int .u8 0, .int .u64 0, .int .u64 0, .bool false, .int .u8 0, .int .u64 0, .int .u64 0, .string ⟨#[]⟩, .slice none 0 0, .int .u8 0, .int .u8 0, .int .i64 0, .int .u8 0, .int .u8 0, .int .u64 0, .int .u64 0, .int .u64 0, .int .u64 0, .int .u64 0] 44) = V6 at *
          clear hV6 hb6
          refine heldMore (S2 := (fun V : World => Below w1.heap.size w1 V ∧ V.ownsRow w2.heap.size 101 2 (.slice A1 n1 c1) n1 (cellsP x.i.l) ∧ V.ownsRow V2.heap.size 101 2 (.slice A2 n2 c2) n2 (cellsP y.i.l) ∧ CellsF V V4.heap.size 44)) (fun _ h => ⟨h.1, h.2.1, h.2.2.1⟩) ?_
          have hh6' : (fun V : World => Below w1.heap.size w1 V ∧ V.ownsRow w2.heap.size 101 2 (.slice A1 n1 c1) n1 (cellsP x.i.l) ∧ V.ownsRow V2.heap.size 101 2 (.slice A2 n2 c2) n2 (cellsP y.i.l) ∧ CellsF V V4.heap.size 44) V6 := ⟨hh6.1, hh6.2.1, hh6.2.2, hc6⟩
          clear hh6 hc6
          replace hz6 : V4.heap.size + 1 ≤ V6.heap.size := by omega
          refine heldOne (i := 5) rfl (by kernel_rfl) (fun K hK => ?_)
          have hb8 : Below V6.heap.size V6 (V6.alloc (.cells #[.int .u8 0, .int .u8 0, .int .u8 0, .int .u64 0, .int .u64 0, .bool false, .int .u8 0, .int .u64 0, .int .u64 0, .string ⟨#[]⟩, .slice none 0 0, .int .u8 0, .int .u8 0, .int .i64 0, .int .u8 0, .int .u8 0, .int .u64 0, .int .u64 0, .int .u64 0, .int .u64 0, .int .u64 0] 44)) := (Below.refl _ _).alloc (Nat.le_refl _) _
          go_simp
          refine hK.out _ _ ?_ (fun hh8 => ?_)
          · exact ⟨(hh6'.1.trans (hb8.mono (hh6'.1.size))), (own_below hh6'.2.1 hb8), (own_below hh6'.2.2.1 hb8), (hh6'.2.2.2.below hb8)⟩
          clear hK K
          try simp only [heldPut, List.set]
          have hc8 : CellsF (V6.alloc (.cells #[.int .u8 0, .int .u8 0, .int .u8 0, .int .u64 0, .int .u64 0, .bool false, .int .u8 0, .int .u64 0, .int .u64 0, .string ⟨#[]⟩, .slice none 0 0, .int .u8 0, .int .u8 0, .int .i64 0, .int .u8 0, .int .u8 0, .int .u64 0, .int .u64 0, .int .u64 0, .int .u64 0, .int .u64 0] 44)) V6.heap.size 44 := CellsF.new _ _ _ rfl
          have hz8 : (V6.alloc (.cells #[.int .u8 0, .int .u8 0, .int .u8 0, .int .u64 0, .int .u64 0, .bool false, .int .u8 0, .int .u64 0, .int .u64 0, .string ⟨#[]⟩, .slice none 0 0, .int .u8 0, .int .u8 0, .int .i64 0, .int .u8 0, .int .u8 0, .int .u64 0, .int .u64 0, .int .u64 0, .int .u64 0, .int .u64 0] 44)).heap.size = V6.heap.size + 1 := by simp
          generalize hV8 : V6.alloc (.cells #[.int .u8 0, .int .u8 0, .int .u8 0, .int .u64 0, .int .u64 0, .bool false, .int .u8 0, .int .u64 0, .int .u64 0, .string ⟨#[]⟩, .slice none 0 0, .int .u8 0, .int .u8 0, .int .i64 0, .int .u8 0, .int .u8 0, .int .u64 0, .int .u64 0, .int .u64 0, .int .u64 0, .int .u64 0] 44) = V8 at *
          clear hV8 hb8
          refine heldMore (S2 := (fun V : World => Below w1.heap.size w1 V ∧ V.ownsRow w2.heap.size 101 2 (.slice A1 n1 c1) n1 (cellsP x.i.l) ∧ V.ownsRow V2.heap.size 101 2 (.slice A2 n2 c2) n2 (cellsP y.i.l) ∧ CellsF V V4.heap.size 44 ∧ CellsF V V6.heap.size 44)) (fun _ h => ⟨h.1, h.2.1, h.2.2.1, h.2.2.2.1⟩) ?_
          have hh8' : (fun V : World => Below w1.heap.size w1 V ∧ V.ownsRow w2.heap.size 101 2 (.slice A1 n1 c1) n1 (cellsP x.i.l) ∧ V.ownsRow V2.heap.size 101 2 (.slice A2 n2 c2) n2 (cellsP y.i.l) ∧ CellsF V V4.heap.size 44 ∧ CellsF V V6.heap.size 44) V8 := ⟨hh8.1, hh8.2.1, hh8.2.2.1, hh8.2.2.2, hc8⟩
          clear hh8 hc8
          replace hz8 : V6.heap.size + 1 ≤ V8.heap.size := by omega
          refine heldOne (i := 6) rfl (by kernel_rfl) (fun K hK => ?_)
          rw [if_pos (by rfl)]
          obtain ⟨cs10, hcs10, hsz10⟩ := hh8'.2.2.2.1
          refine wp_store_row _ _ _ rfl (V4.heap.size) _ rfl rfl _ _ hcs10 Try.infoF hsz10 (by simp [Value.oneCell']) ?_
          refine hK.out _ _ ?_ (fun hh10 => ?_)
          · exact ⟨(below_setRow hh8'.1 (by omega) _), (own_setRowF hh8'.2.1 (fun e => by have := HL1.out _ e; omega) _), (own_setRowF hh8'.2.2.1 (fun e => by have := HL2.out _ e; omega) _), (hh8'.2.2.2.1.same _ rfl), (hh8'.2.2.2.2.other (by omega) _)⟩
          clear hK K
          have hX : (V8.setRow (V4.heap.size) #[.int .u8 x.k, .int .u8 x.f, .int .u8 x.t, .int .u64 x.e, .int .u64 x.q, .bool x.i.g, .int .u8 x.i.o, .int .u64 x.i.q, .int .u64 x.i.t, .string x.i.r, .slice A1 n1 c1, .int .u8 x.i.s, .int .u8 x.i.p, .int .i64 x.i.v, .int .u8 x.i.w, .int .u8 x.i.ga, .int .u64 x.i.gf, .int .u64 x.i.gt, .int .u64 x.c, .int .u64 x.b, .int .u64 x.l]).heap[V4.heap.size]? = some (.cells #[.int .u8 x.k, .int .u8 x.f, .int .u8 x.t, .int .u64 x.e, .int .u64 x.q, .bool x.i.g, .int .u8 x.i.o, .int .u64 x.i.q, .int .u64 x.i.t, .string x.i.r, .slice A1 n1 c1, .int .u8 x.i.s, .int .u8 x.i.p, .int .i64 x.i.v, .int .u8 x.i.w, .int .u8 x.i.ga, .int .u64 x.i.gf, .int .u64 x.i.gt, .int .u64 x.c, .int .u64 x.b, .int .u64 x.l] 44 (0, 0)) := setRow_heap _ _ _ _ _ _ hcs10
          generalize hV10 : V8.setRow (V4.heap.size) #[.int .u8 x.k, .int .u8 x.f, .int .u8 x.t, .int .u64 x.e, .int .u64 x.q, .bool x.i.g, .int .u8 x.i.o, .int .u64 x.i.q, .int .u64 x.i.t, .string x.i.r, .slice A1 n1 c1, .int .u8 x.i.s, .int .u8 x.i.p, .int .i64 x.i.v, .int .u8 x.i.w, .int .u8 x.i.ga, .int .u64 x.i.gf, .int .u64 x.i.gt, .int .u64 x.c, .int .u64 x.b, .int .u64 x.l] = V10 at *
          clear hV10 hcs10 hsz10 
          refine heldOne (i := 7) rfl (by kernel_rfl) (fun K hK => ?_)
          rw [if_pos (by rfl)]
          obtain ⟨cs12, hcs12, hsz12⟩ := hh10.2.2.2.2
          refine wp_store_row _ _ _ rfl (V6.heap.size) _ rfl rfl _ _ hcs12 Try.infoF hsz12 (by simp [Value.oneCell']) ?_
          refine hK.out _ _ ?_ (fun hh12 => ?_)
          · exact ⟨(below_setRow hh10.1 (by omega) _), (own_setRowF hh10.2.1 (fun e => by have := HL1.out _ e; omega) _), (own_setRowF hh10.2.2.1 (fun e => by have := HL2.out _ e; omega) _), (hh10.2.2.2.1.other (by omega) _), (hh10.2.2.2.2.same _ rfl)⟩
          clear hK K
          have hY : (V10.setRow (V6.heap.size) #[.int .u8 y.k, .int .u8 y.f, .int .u8 y.t, .int .u64 y.e, .int .u64 y.q, .bool y.i.g, .int .u8 y.i.o, .int .u64 y.i.q, .int .u64 y.i.t, .string y.i.r, .slice A2 n2 c2, .int .u8 y.i.s, .int .u8 y.i.p, .int .i64 y.i.v, .int .u8 y.i.w, .int .u8 y.i.ga, .int .u64 y.i.gf, .int .u64 y.i.gt, .int .u64 y.c, .int .u64 y.b, .int .u64 y.l]).heap[V6.heap.size]? = some (.cells #[.int .u8 y.k, .int .u8 y.f, .int .u8 y.t, .int .u64 y.e, .int .u64 y.q, .bool y.i.g, .int .u8 y.i.o, .int .u64 y.i.q, .int .u64 y.i.t, .string y.i.r, .slice A2 n2 c2, .int .u8 y.i.s, .int .u8 y.i.p, .int .i64 y.i.v, .int .u8 y.i.w, .int .u8 y.i.ga, .int .u64 y.i.gf, .int .u64 y.i.gt, .int .u64 y.c, .int .u64 y.b, .int .u64 y.l] 44 (0, 0)) := setRow_heap _ _ _ _ _ _ hcs12
          have hX' : (V10.setRow (V6.heap.size) #[.int .u8 y.k, .int .u8 y.f, .int .u8 y.t, .int .u64 y.e, .int .u64 y.q, .bool y.i.g, .int .u8 y.i.o, .int .u64 y.i.q, .int .u64 y.i.t, .string y.i.r, .slice A2 n2 c2, .int .u8 y.i.s, .int .u8 y.i.p, .int .i64 y.i.v, .int .u8 y.i.w, .int .u8 y.i.ga, .int .u64 y.i.gf, .int .u64 y.i.gt, .int .u64 y.c, .int .u64 y.b, .int .u64 y.l]).heap[V4.heap.size]? = some (.cells #[.int .u8 x.k, .int .u8 x.f, .int .u8 x.t, .int .u64 x.e, .int .u64 x.q, .bool x.i.g, .int .u8 x.i.o, .int .u64 x.i.q, .int .u64 x.i.t, .string x.i.r, .slice A1 n1 c1, .int .u8 x.i.s, .int .u8 x.i.p, .int .i64 x.i.v, .int .u8 x.i.w, .int .u8 x.i.ga, .int .u64 x.i.gf, .int .u64 x.i.gt, .int .u64 x.c, .int .u64 x.b, .int .u64 x.l] 44 (0, 0)) := (setRow_other _ _ _ _ (by omega)).trans hX
          generalize hV12 : V10.setRow (V6.heap.size) #[.int .u8 y.k, .int .u8 y.f, .int .u8 y.t, .int .u64 y.e, .int .u64 y.q, .bool y.i.g, .int .u8 y.i.o, .int .u64 y.i.q, .int .u64 y.i.t, .string y.i.r, .slice A2 n2 c2, .int .u8 y.i.s, .int .u8 y.i.p, .int .i64 y.i.v, .int .u8 y.i.w, .int .u8 y.i.ga, .int .u64 y.i.gf, .int .u64 y.i.gt, .int .u64 y.c, .int .u64 y.b, .int .u64 y.l] = V12 at *
          clear hV12 hcs12 hsz12 hX
          refine wpAnyH_done (by kernel_rfl) ?_ _
          refine NoPanic.normal ?_
          go_wp2_with fail
          go_meet
          exact ⟨V4.heap.size, V6.heap.size, A1, n1, c1, A2, n2, c2, rfl, rfl, ⟨Hb1.out.trans (hh12.1.mono hw1), hX', hY, ownB_mono hh12.2.1 (by omega), ownB_mono hh12.2.2.1 (by omega), HN1.out, HN2.out, by omega, by omega, by omega, fun e => by have := HL1.out _ e; omega, fun e => by have := HL1.out _ e; omega, fun e => by have := HL2.out _ e; omega, fun e => by have := HL2.out _ e; omega⟩⟩
        case' g5_5 =>
          have hb13 : Below V4.heap.size V4 (V4.alloc (.cells #[.int .u8 0, .int .u8 0, .int .u8 0, .int .u64 0, .int .u64 0, .bool false, .int .u8 0, .int .u64 0, .int .u64 0, .string ⟨#[]⟩, .slice none 0 0, .int .u8 0, .int .u8 0, .int .i64 0, .int .u8 0, .int .u8 0, .int .u64 0, .int .u64 0, .int .u64 0, .int .u64 0, .int .u64 0] 44)) := (Below.refl _ _).alloc (Nat.le_refl _) _
          go_simp
          refine hK.out _ _ ?_ (fun hh13 => ?_)
          · exact ⟨(hh4'.1.trans (hb13.mono (hh4'.1.size))), (own_below hh4'.2.1 hb13), (own_below hh4'.2.2 hb13)⟩
          clear hK K
          try simp only [heldPut, List.set]
          have hc13 : CellsF (V4.alloc (.cells #[.int .u8 0, .int .u8 0, .int .u8 0, .int .u64 0, .int .u64 0, .bool false, .int .u8 0, .int .u64 0, .int .u64 0, .string ⟨#[]⟩, .slice none 0 0, .int .u8 0, .int .u8 0, .int .i64 0, .int .u8 0, .int .u8 0, .int .u64 0, .int .u64 0, .int .u64 0, .int .u64 0, .int .u64 0] 44)) V4.heap.size 44 := CellsF.new _ _ _ rfl
          have hz13 : (V4.alloc (.cells #[.int .u8 0, .int .u8 0, .int .u8 0, .int .u64 0, .int .u64 0, .bool false, .int .u8 0, .int .u64 0, .int .u64 0, .string ⟨#[]⟩, .slice none 0 0, .int .u8 0, .int .u8 0, .int .i64 0, .int .u8 0, .int .u8 0, .int .u64 0, .int .u64 0, .int .u64 0, .int .u64 0, .int .u64 0] 44)).heap.size = V4.heap.size + 1 := by simp
          generalize hV13 : V4.alloc (.cells #[.int .u8 0, .int .u8 0, .int .u8 0, .int .u64 0, .int .u64 0, .bool false, .int .u8 0, .int .u64 0, .int .u64 0, .string ⟨#[]⟩, .slice none 0 0, .int .u8 0, .int .u8 0, .int .i64 0, .int .u8 0, .int .u8 0, .int .u64 0, .int .u64 0, .int .u64 0, .int .u64 0, .int .u64 0] 44) = V13 at *
          clear hV13 hb13
          refine heldMore (S2 := (fun V : World => Below w1.heap.size w1 V ∧ V.ownsRow w2.heap.size 101 2 (.slice A1 n1 c1) n1 (cellsP x.i.l) ∧ V.ownsRow V2.heap.size 101 2 (.slice A2 n2 c2) n2 (cellsP y.i.l) ∧ CellsF V V4.heap.size 44)) (fun _ h => ⟨h.1, h.2.1, h.2.2.1⟩) ?_
          have hh13' : (fun V : World => Below w1.heap.size w1 V ∧ V.ownsRow w2.heap.size 101 2 (.slice A1 n1 c1) n1 (cellsP x.i.l) ∧ V.ownsRow V2.heap.size 101 2 (.slice A2 n2 c2) n2 (cellsP y.i.l) ∧ CellsF V V4.heap.size 44) V13 := ⟨hh13.1, hh13.2.1, hh13.2.2, hc13⟩
          clear hh13 hc13
          replace hz13 : V4.heap.size + 1 ≤ V13.heap.size := by omega
          refine heldOne (i := 4) rfl (by kernel_rfl) (fun K hK => ?_)
          have hb15 : Below V13.heap.size V13 (V13.alloc (.cells #[.int .u8 0, .int .u8 0, .int .u8 0, .int .u64 0, .int .u64 0, .bool false, .int .u8 0, .int .u64 0, .int .u64 0, .string ⟨#[]⟩, .slice none 0 0, .int .u8 0, .int .u8 0, .int .i64 0, .int .u8 0, .int .u8 0, .int .u64 0, .int .u64 0, .int .u64 0, .int .u64 0, .int .u64 0] 44)) := (Below.refl _ _).alloc (Nat.le_refl _) _
          go_simp
          refine hK.out _ _ ?_ (fun hh15 => ?_)
          · exact ⟨(hh13'.1.trans (hb15.mono (hh13'.1.size))), (own_below hh13'.2.1 hb15), (own_below hh13'.2.2.1 hb15), (hh13'.2.2.2.below hb15)⟩
          clear hK K
          try simp only [heldPut, List.set]
          have hc15 : CellsF (V13.alloc (.cells #[.int .u8 0, .int .u8 0, .int .u8 0, .int .u64 0, .int .u64 0, .bool false, .int .u8 0, .int .u64 0, .int .u64 0, .string ⟨#[]⟩, .slice none 0 0, .int .u8 0, .int .u8 0, .int .i64 0, .int .u8 0, .int .u8 0, .int .u64 0, .int .u64 0, .int .u64 0, .int .u64 0, .int .u64 0] 44)) V13.heap.size 44 := CellsF.new _ _ _ rfl
          have hz15 : (V13.alloc (.cells #[.int .u8 0, .int .u8 0, .int .u8 0, .int .u64 0, .int .u64 0, .bool false, .int .u8 0, .int .u64 0, .int .u64 0, .string ⟨#[]⟩, .slice none 0 0, .int .u8 0, .int .u8 0, .int .i64 0, .int .u8 0, .int .u8 0, .int .u64 0, .int .u64 0, .int .u64 0, .int .u64 0, .int .u64 0] 44)).heap.size = V13.heap.size + 1 := by simp
          generalize hV15 : V13.alloc (.cells #[.int .u8 0, .int .u8 0, .int .u8 0, .int .u64 0, .int .u64 0, .bool false, .int .u8 0, .int .u64 0, .int .u64 0, .string ⟨#[]⟩, .slice none 0 0, .int .u8 0, .int .u8 0, .int .i64 0, .int .u8 0, .int .u8 0, .int .u64 0, .int .u64 0, .int .u64 0, .int .u64 0, .int .u64 0] 44) = V15 at *
          clear hV15 hb15
          refine heldMore (S2 := (fun V : World => Below w1.heap.size w1 V ∧ V.ownsRow w2.heap.size 101 2 (.slice A1 n1 c1) n1 (cellsP x.i.l) ∧ V.ownsRow V2.heap.size 101 2 (.slice A2 n2 c2) n2 (cellsP y.i.l) ∧ CellsF V V4.heap.size 44 ∧ CellsF V V13.heap.size 44)) (fun _ h => ⟨h.1, h.2.1, h.2.2.1, h.2.2.2.1⟩) ?_
          have hh15' : (fun V : World => Below w1.heap.size w1 V ∧ V.ownsRow w2.heap.size 101 2 (.slice A1 n1 c1) n1 (cellsP x.i.l) ∧ V.ownsRow V2.heap.size 101 2 (.slice A2 n2 c2) n2 (cellsP y.i.l) ∧ CellsF V V4.heap.size 44 ∧ CellsF V V13.heap.size 44) V15 := ⟨hh15.1, hh15.2.1, hh15.2.2.1, hh15.2.2.2, hc15⟩
          clear hh15 hc15
          replace hz15 : V13.heap.size + 1 ≤ V15.heap.size := by omega
          refine heldOne (i := 6) rfl (by kernel_rfl) (fun K hK => ?_)
          rw [if_pos (by rfl)]
          obtain ⟨cs17, hcs17, hsz17⟩ := hh15'.2.2.2.2
          refine wp_store_row _ _ _ rfl (V13.heap.size) _ rfl rfl _ _ hcs17 Try.infoF hsz17 (by simp [Value.oneCell']) ?_
          refine hK.out _ _ ?_ (fun hh17 => ?_)
          · exact ⟨(below_setRow hh15'.1 (by omega) _), (own_setRowF hh15'.2.1 (fun e => by have := HL1.out _ e; omega) _), (own_setRowF hh15'.2.2.1 (fun e => by have := HL2.out _ e; omega) _), (hh15'.2.2.2.1.other (by omega) _), (hh15'.2.2.2.2.same _ rfl)⟩
          clear hK K
          have hX : (V15.setRow (V13.heap.size) #[.int .u8 x.k, .int .u8 x.f, .int .u8 x.t, .int .u64 x.e, .int .u64 x.q, .bool x.i.g, .int .u8 x.i.o, .int .u64 x.i.q, .int .u64 x.i.t, .string x.i.r, .slice A1 n1 c1, .int .u8 x.i.s, .int .u8 x.i.p, .int .i64 x.i.v, .int .u8 x.i.w, .int .u8 x.i.ga, .int .u64 x.i.gf, .int .u64 x.i.gt, .int .u64 x.c, .int .u64 x.b, .int .u64 x.l]).heap[V13.heap.size]? = some (.cells #[.int .u8 x.k, .int .u8 x.f, .int .u8 x.t, .int .u64 x.e, .int .u64 x.q, .bool x.i.g, .int .u8 x.i.o, .int .u64 x.i.q, .int .u64 x.i.t, .string x.i.r, .slice A1 n1 c1, .int .u8 x.i.s, .int .u8 x.i.p, .int .i64 x.i.v, .int .u8 x.i.w, .int .u8 x.i.ga, .int .u64 x.i.gf, .int .u64 x.i.gt, .int .u64 x.c, .int .u64 x.b, .int .u64 x.l] 44 (0, 0)) := setRow_heap _ _ _ _ _ _ hcs17
          generalize hV17 : V15.setRow (V13.heap.size) #[.int .u8 x.k, .int .u8 x.f, .int .u8 x.t, .int .u64 x.e, .int .u64 x.q, .bool x.i.g, .int .u8 x.i.o, .int .u64 x.i.q, .int .u64 x.i.t, .string x.i.r, .slice A1 n1 c1, .int .u8 x.i.s, .int .u8 x.i.p, .int .i64 x.i.v, .int .u8 x.i.w, .int .u8 x.i.ga, .int .u64 x.i.gf, .int .u64 x.i.gt, .int .u64 x.c, .int .u64 x.b, .int .u64 x.l] = V17 at *
          clear hV17 hcs17 hsz17 
          refine heldOne (i := 7) rfl (by kernel_rfl) (fun K hK => ?_)
          rw [if_pos (by rfl)]
          obtain ⟨cs19, hcs19, hsz19⟩ := hh17.2.2.2.1
          refine wp_store_row _ _ _ rfl (V4.heap.size) _ rfl rfl _ _ hcs19 Try.infoF hsz19 (by simp [Value.oneCell']) ?_
          refine hK.out _ _ ?_ (fun hh19 => ?_)
          · exact ⟨(below_setRow hh17.1 (by omega) _), (own_setRowF hh17.2.1 (fun e => by have := HL1.out _ e; omega) _), (own_setRowF hh17.2.2.1 (fun e => by have := HL2.out _ e; omega) _), (hh17.2.2.2.1.same _ rfl), (hh17.2.2.2.2.other (by omega) _)⟩
          clear hK K
          have hY : (V17.setRow (V4.heap.size) #[.int .u8 y.k, .int .u8 y.f, .int .u8 y.t, .int .u64 y.e, .int .u64 y.q, .bool y.i.g, .int .u8 y.i.o, .int .u64 y.i.q, .int .u64 y.i.t, .string y.i.r, .slice A2 n2 c2, .int .u8 y.i.s, .int .u8 y.i.p, .int .i64 y.i.v, .int .u8 y.i.w, .int .u8 y.i.ga, .int .u64 y.i.gf, .int .u64 y.i.gt, .int .u64 y.c, .int .u64 y.b, .int .u64 y.l]).heap[V4.heap.size]? = some (.cells #[.int .u8 y.k, .int .u8 y.f, .int .u8 y.t, .int .u64 y.e, .int .u64 y.q, .bool y.i.g, .int .u8 y.i.o, .int .u64 y.i.q, .int .u64 y.i.t, .string y.i.r, .slice A2 n2 c2, .int .u8 y.i.s, .int .u8 y.i.p, .int .i64 y.i.v, .int .u8 y.i.w, .int .u8 y.i.ga, .int .u64 y.i.gf, .int .u64 y.i.gt, .int .u64 y.c, .int .u64 y.b, .int .u64 y.l] 44 (0, 0)) := setRow_heap _ _ _ _ _ _ hcs19
          have hX' : (V17.setRow (V4.heap.size) #[.int .u8 y.k, .int .u8 y.f, .int .u8 y.t, .int .u64 y.e, .int .u64 y.q, .bool y.i.g, .int .u8 y.i.o, .int .u64 y.i.q, .int .u64 y.i.t, .string y.i.r, .slice A2 n2 c2, .int .u8 y.i.s, .int .u8 y.i.p, .int .i64 y.i.v, .int .u8 y.i.w, .int .u8 y.i.ga, .int .u64 y.i.gf, .int .u64 y.i.gt, .int .u64 y.c, .int .u64 y.b, .int .u64 y.l]).heap[V13.heap.size]? = some (.cells #[.int .u8 x.k, .int .u8 x.f, .int .u8 x.t, .int .u64 x.e, .int .u64 x.q, .bool x.i.g, .int .u8 x.i.o, .int .u64 x.i.q, .int .u64 x.i.t, .string x.i.r, .slice A1 n1 c1, .int .u8 x.i.s, .int .u8 x.i.p, .int .i64 x.i.v, .int .u8 x.i.w, .int .u8 x.i.ga, .int .u64 x.i.gf, .int .u64 x.i.gt, .int .u64 x.c, .int .u64 x.b, .int .u64 x.l] 44 (0, 0)) := (setRow_other _ _ _ _ (by omega)).trans hX
          generalize hV19 : V17.setRow (V4.heap.size) #[.int .u8 y.k, .int .u8 y.f, .int .u8 y.t, .int .u64 y.e, .int .u64 y.q, .bool y.i.g, .int .u8 y.i.o, .int .u64 y.i.q, .int .u64 y.i.t, .string y.i.r, .slice A2 n2 c2, .int .u8 y.i.s, .int .u8 y.i.p, .int .i64 y.i.v, .int .u8 y.i.w, .int .u8 y.i.ga, .int .u64 y.i.gf, .int .u64 y.i.gt, .int .u64 y.c, .int .u64 y.b, .int .u64 y.l] = V19 at *
          clear hV19 hcs19 hsz19 hX
          refine wpAnyH_done (by kernel_rfl) ?_ _
          refine NoPanic.normal ?_
          go_wp2_with fail
          go_meet
          exact ⟨V13.heap.size, V4.heap.size, A1, n1, c1, A2, n2, c2, rfl, rfl, ⟨Hb1.out.trans (hh19.1.mono hw1), hX', hY, ownB_mono hh19.2.1 (by omega), ownB_mono hh19.2.2.1 (by omega), HN1.out, HN2.out, by omega, by omega, by omega, fun e => by have := HL1.out _ e; omega, fun e => by have := HL1.out _ e; omega, fun e => by have := HL2.out _ e; omega, fun e => by have := HL2.out _ e; omega⟩⟩
      case g3_4 =>
        have hb20 : Below V2.heap.size V2 (V2.alloc (.cells #[.int .u8 0, .int .u8 0, .int .u8 0, .int .u64 0, .int .u64 0, .bool false, .int .u8 0, .int .u64 0, .int .u64 0, .string ⟨#[]⟩, .slice none 0 0, .int .u8 0, .int .u8 0, .int .i64 0, .int .u8 0, .int .u8 0, .int .u64 0, .int .u64 0, .int .u64 0, .int .u64 0, .int .u64 0] 44)) := (Below.refl _ _).alloc (Nat.le_refl _) _
        go_simp
        refine hK.out _ _ ?_ (fun hh20 => ?_)
        · exact ⟨(hh2'.1.trans (hb20.mono (hh2'.1.size))), (own_below hh2'.2 hb20)⟩
        clear hK K
        try simp only [heldPut, List.set]
        have hc20 : CellsF (V2.alloc (.cells #[.int .u8 0, .int .u8 0, .int .u8 0, .int .u64 0, .int .u64 0, .bool false, .int .u8 0, .int .u64 0, .int .u64 0, .string ⟨#[]⟩, .slice none 0 0, .int .u8 0, .int .u8 0, .int .i64 0, .int .u8 0, .int .u8 0, .int .u64 0, .int .u64 0, .int .u64 0, .int .u64 0, .int .u64 0] 44)) V2.heap.size 44 := CellsF.new _ _ _ rfl
        have hz20 : (V2.alloc (.cells #[.int .u8 0, .int .u8 0, .int .u8 0, .int .u64 0, .int .u64 0, .bool false, .int .u8 0, .int .u64 0, .int .u64 0, .string ⟨#[]⟩, .slice none 0 0, .int .u8 0, .int .u8 0, .int .i64 0, .int .u8 0, .int .u8 0, .int .u64 0, .int .u64 0, .int .u64 0, .int .u64 0, .int .u64 0] 44)).heap.size = V2.heap.size + 1 := by simp
        generalize hV20 : V2.alloc (.cells #[.int .u8 0, .int .u8 0, .int .u8 0, .int .u64 0, .int .u64 0, .bool false, .int .u8 0, .int .u64 0, .int .u64 0, .string ⟨#[]⟩, .slice none 0 0, .int .u8 0, .int .u8 0, .int .i64 0, .int .u8 0, .int .u8 0, .int .u64 0, .int .u64 0, .int .u64 0, .int .u64 0, .int .u64 0] 44) = V20 at *
        clear hV20 hb20
        refine heldMore (S2 := (fun V : World => Below w1.heap.size w1 V ∧ V.ownsRow w2.heap.size 101 2 (.slice A1 n1 c1) n1 (cellsP x.i.l) ∧ CellsF V V2.heap.size 44)) (fun _ h => ⟨h.1, h.2.1⟩) ?_
        have hh20' : (fun V : World => Below w1.heap.size w1 V ∧ V.ownsRow w2.heap.size 101 2 (.slice A1 n1 c1) n1 (cellsP x.i.l) ∧ CellsF V V2.heap.size 44) V20 := ⟨hh20.1, hh20.2, hc20⟩
        clear hh20 hc20
        replace hz20 : V2.heap.size + 1 ≤ V20.heap.size := by omega
        refine heldTwo (i := 3) (j := 5) rfl rfl (by kernel_rfl) (fun K hK => ?g21_3) (fun K hK => ?g21_5)
        case' g21_3 =>
          go_simp
          refine (smallF_as HX2.out HS2.out _).mono ?_
          rintro e V22 ⟨A2, n2, c2, rfl, hn2, ho2, hb22⟩
          have HN2 := Lib.hid hn2
          clear hn2
          go_wp2_with fail
          refine hK.out _ _ ?_ (fun hh22 => ?_)
          · exact ⟨(hh20'.1.trans (hb22.mono (hh20'.1.size))), (own_below hh20'.2.1 hb22), (hh20'.2.2.below hb22)⟩
          clear hK K
          try simp only [heldPut, List.set]
          have hz22 := hb22.size
          have HL2 : Hid (∀ k, (Value.slice A2 n2 c2).ownBlock = some k → V20.heap.size ≤ k ∧ k < V22.heap.size) := fun k e => ho2.lt k e
          refine heldMore (S2 := (fun V : World => Below w1.heap.size w1 V ∧ V.ownsRow w2.heap.size 101 2 (.slice A1 n1 c1) n1 (cellsP x.i.l) ∧ CellsF V V2.heap.size 44 ∧ V.ownsRow V20.heap.size 101 2 (.slice A2 n2 c2) n2 (cellsP y.i.l))) (fun _ h => ⟨h.1, h.2.1, h.2.2.1⟩) ?_
          have hh22' : (fun V : World => Below w1.heap.size w1 V ∧ V.ownsRow w2.heap.size 101 2 (.slice A1 n1 c1) n1 (cellsP x.i.l) ∧ CellsF V V2.heap.size 44 ∧ V.ownsRow V20.heap.size 101 2 (.slice A2 n2 c2) n2 (cellsP y.i.l)) V22 := ⟨hh22.1, hh22.2.1, hh22.2.2, ho2⟩
          clear hh22 ho2 hb22
          refine heldOne (i := 5) rfl (by kernel_rfl) (fun K hK => ?_)
          have hb24 : Below V22.heap.size V22 (V22.alloc (.cells #[.int .u8 0, .int .u8 0, .int .u8 0, .int .u64 0, .int .u64 0, .bool false, .int .u8 0, .int .u64 0, .int .u64 0, .string ⟨#[]⟩, .slice none 0 0, .int .u8 0, .int .u8 0, .int .i64 0, .int .u8 0, .int .u8 0, .int .u64 0, .int .u64 0, .int .u64 0, .int .u64 0, .int .u64 0] 44)) := (Below.refl _ _).alloc (Nat.le_refl _) _
          go_simp
          refine hK.out _ _ ?_ (fun hh24 => ?_)
          · exact ⟨(hh22'.1.trans (hb24.mono (hh22'.1.size))), (own_below hh22'.2.1 hb24), (hh22'.2.2.1.below hb24), (own_below hh22'.2.2.2 hb24)⟩
          clear hK K
          try simp only [heldPut, List.set]
          have hc24 : CellsF (V22.alloc (.cells #[.int .u8 0, .int .u8 0, .int .u8 0, .int .u64 0, .int .u64 0, .bool false, .int .u8 0, .int .u64 0, .int .u64 0, .string ⟨#[]⟩, .slice none 0 0, .int .u8 0, .int .u8 0, .int .i64 0, .int .u8 0, .int .u8 0, .int .u64 0, .int .u64 0, .int .u64 0, .int .u64 0, .int .u64 0] 44)) V22.heap.size 44 := CellsF.new _ _ _ rfl
          have hz24 : (V22.alloc (.cells #[.int .u8 0, .int .u8 0, .int .u8 0, .int .u64 0, .int .u64 0, .bool false, .int .u8 0, .int .u64 0, .int .u64 0, .string ⟨#[]⟩, .slice none 0 0, .int .u8 0, .int .u8 0, .int .i64 0, .int .u8 0, .int .u8 0, .int .u64 0, .int .u64 0, .int .u64 0, .int .u64 0, .int .u64 0] 44)).heap.size = V22.heap.size + 1 := by simp
          generalize hV24 : V22.alloc (.cells #[.int .u8 0, .int .u8 0, .int .u8 0, .int .u64 0, .int .u64 0, .bool false, .int .u8 0, .int .u64 0, .int .u64 0, .string ⟨#[]⟩, .slice none 0 0, .int .u8 0, .int .u8 0, .int .i64 0, .int .u8 0, .int .u8 0, .int .u64 0, .int .u64 0, .int .u64 0, .int .u64 0, .int .u64 0] 44) = V24 at *
          clear hV24 hb24
          refine heldMore (S2 := (fun V : World => Below w1.heap.size w1 V ∧ V.ownsRow w2.heap.size 101 2 (.slice A1 n1 c1) n1 (cellsP x.i.l) ∧ CellsF V V2.heap.size 44 ∧ V.ownsRow V20.heap.size 101 2 (.slice A2 n2 c2) n2 (cellsP y.i.l) ∧ CellsF V V22.heap.size 44)) (fun _ h => ⟨h.1, h.2.1, h.2.2.1, h.2.2.2.1⟩) ?_
          have hh24' : (fun V : World => Below w1.heap.size w1 V ∧ V.ownsRow w2.heap.size 101 2 (.slice A1 n1 c1) n1 (cellsP x.i.l) ∧ CellsF V V2.heap.size 44 ∧ V.ownsRow V20.heap.size 101 2 (.slice A2 n2 c2) n2 (cellsP y.i.l) ∧ CellsF V V22.heap.size 44) V24 := ⟨hh24.1, hh24.2.1, hh24.2.2.1, hh24.2.2.2, hc24⟩
          clear hh24 hc24
          replace hz24 : V22.heap.size + 1 ≤ V24.heap.size := by omega
          refine heldOne (i := 6) rfl (by kernel_rfl) (fun K hK => ?_)
          rw [if_pos (by rfl)]
          obtain ⟨cs26, hcs26, hsz26⟩ := hh24'.2.2.1
          refine wp_store_row _ _ _ rfl (V2.heap.size) _ rfl rfl _ _ hcs26 Try.infoF hsz26 (by simp [Value.oneCell']) ?_
          refine hK.out _ _ ?_ (fun hh26 => ?_)
          · exact ⟨(below_setRow hh24'.1 (by omega) _), (own_setRowF hh24'.2.1 (fun e => by have := HL1.out _ e; omega) _), (hh24'.2.2.1.same _ rfl), (own_setRowF hh24'.2.2.2.1 (fun e => by have := HL2.out _ e; omega) _), (hh24'.2.2.2.2.other (by omega) _)⟩
          clear hK K
          have hX : (V24.setRow (V2.heap.size) #[.int .u8 x.k, .int .u8 x.f, .int .u8 x.t, .int .u64 x.e, .int .u64 x.q, .bool x.i.g, .int .u8 x.i.o, .int .u64 x.i.q, .int .u64 x.i.t, .string x.i.r, .slice A1 n1 c1, .int .u8 x.i.s, .int .u8 x.i.p, .int .i64 x.i.v, .int .u8 x.i.w, .int .u8 x.i.ga, .int .u64 x.i.gf, .int .u64 x.i.gt, .int .u64 x.c, .int .u64 x.b, .int .u64 x.l]).heap[V2.heap.size]? = some (.cells #[.int .u8 x.k, .int .u8 x.f, .int .u8 x.t, .int .u64 x.e, .int .u64 x.q, .bool x.i.g, .int .u8 x.i.o, .int .u64 x.i.q, .int .u64 x.i.t, .string x.i.r, .slice A1 n1 c1, .int .u8 x.i.s, .int .u8 x.i.p, .int .i64 x.i.v, .int .u8 x.i.w, .int .u8 x.i.ga, .int .u64 x.i.gf, .int .u64 x.i.gt, .int .u64 x.c, .int .u64 x.b, .int .u64 x.l] 44 (0, 0)) := setRow_heap _ _ _ _ _ _ hcs26
          generalize hV26 : V24.setRow (V2.heap.size) #[.int .u8 x.k, .int .u8 x.f, .int .u8 x.t, .int .u64 x.e, .int .u64 x.q, .bool x.i.g, .int .u8 x.i.o, .int .u64 x.i.q, .int .u64 x.i.t, .string x.i.r, .slice A1 n1 c1, .int .u8 x.i.s, .int .u8 x.i.p, .int .i64 x.i.v, .int .u8 x.i.w, .int .u8 x.i.ga, .int .u64 x.i.gf, .int .u64 x.i.gt, .int .u64 x.c, .int .u64 x.b, .int .u64 x.l] = V26 at *
          clear hV26 hcs26 hsz26 
          refine heldOne (i := 7) rfl (by kernel_rfl) (fun K hK => ?_)
          rw [if_pos (by rfl)]
          obtain ⟨cs28, hcs28, hsz28⟩ := hh26.2.2.2.2
          refine wp_store_row _ _ _ rfl (V22.heap.size) _ rfl rfl _ _ hcs28 Try.infoF hsz28 (by simp [Value.oneCell']) ?_
          refine hK.out _ _ ?_ (fun hh28 => ?_)
          · exact ⟨(below_setRow hh26.1 (by omega) _), (own_setRowF hh26.2.1 (fun e => by have := HL1.out _ e; omega) _), (hh26.2.2.1.other (by omega) _), (own_setRowF hh26.2.2.2.1 (fun e => by have := HL2.out _ e; omega) _), (hh26.2.2.2.2.same _ rfl)⟩
          clear hK K
          have hY : (V26.setRow (V22.heap.size) #[.int .u8 y.k, .int .u8 y.f, .int .u8 y.t, .int .u64 y.e, .int .u64 y.q, .bool y.i.g, .int .u8 y.i.o, .int .u64 y.i.q, .int .u64 y.i.t, .string y.i.r, .slice A2 n2 c2, .int .u8 y.i.s, .int .u8 y.i.p, .int .i64 y.i.v, .int .u8 y.i.w, .int .u8 y.i.ga, .int .u64 y.i.gf, .int .u64 y.i.gt, .int .u64 y.c, .int .u64 y.b, .int .u64 y.l]).heap[V22.heap.size]? = some (.cells #[.int .u8 y.k, .int .u8 y.f, .int .u8 y.t, .int .u64 y.e, .int .u64 y.q, .bool y.i.g, .int .u8 y.i.o, .int .u64 y.i.q, .int .u64 y.i.t, .string y.i.r, .slice A2 n2 c2, .int .u8 y.i.s, .int .u8 y.i.p, .int .i64 y.i.v, .int .u8 y.i.w, .int .u8 y.i.ga, .int .u64 y.i.gf, .int .u64 y.i.gt, .int .u64 y.c, .int .u64 y.b, .int .u64 y.l] 44 (0, 0)) := setRow_heap _ _ _ _ _ _ hcs28
          have hX' : (V26.setRow (V22.heap.size) #[.int .u8 y.k, .int .u8 y.f, .int .u8 y.t, .int .u64 y.e, .int .u64 y.q, .bool y.i.g, .int .u8 y.i.o, .int .u64 y.i.q, .int .u64 y.i.t, .string y.i.r, .slice A2 n2 c2, .int .u8 y.i.s, .int .u8 y.i.p, .int .i64 y.i.v, .int .u8 y.i.w, .int .u8 y.i.ga, .int .u64 y.i.gf, .int .u64 y.i.gt, .int .u64 y.c, .int .u64 y.b, .int .u64 y.l]).heap[V2.heap.size]? = some (.cells #[.int .u8 x.k, .int .u8 x.f, .int .u8 x.t, .int .u64 x.e, .int .u64 x.q, .bool x.i.g, .int .u8 x.i.o, .int .u64 x.i.q, .int .u64 x.i.t, .string x.i.r, .slice A1 n1 c1, .int .u8 x.i.s, .int .u8 x.i.p, .int .i64 x.i.v, .int .u8 x.i.w, .int .u8 x.i.ga, .int .u64 x.i.gf, .int .u64 x.i.gt, .int .u64 x.c, .int .u64 x.b, .int .u64 x.l] 44 (0, 0)) := (setRow_other _ _ _ _ (by omega)).trans hX
          generalize hV28 : V26.setRow (V22.heap.size) #[.int .u8 y.k, .int .u8 y.f, .int .u8 y.t, .int .u64 y.e, .int .u64 y.q, .bool y.i.g, .int .u8 y.i.o, .int .u64 y.i.q, .int .u64 y.i.t, .string y.i.r, .slice A2 n2 c2, .int .u8 y.i.s, .int .u8 y.i.p, .int .i64 y.i.v, .int .u8 y.i.w, .int .u8 y.i.ga, .int .u64 y.i.gf, .int .u64 y.i.gt, .int .u64 y.c, .int .u64 y.b, .int .u64 y.l] = V28 at *
          clear hV28 hcs28 hsz28 hX
          refine wpAnyH_done (by kernel_rfl) ?_ _
          refine NoPanic.normal ?_
          go_wp2_with fail
          go_meet
          exact ⟨V2.heap.size, V22.heap.size, A1, n1, c1, A2, n2, c2, rfl, rfl, ⟨Hb1.out.trans (hh28.1.mono hw1), hX', hY, ownB_mono hh28.2.1 (by omega), ownB_mono hh28.2.2.2.1 (by omega), HN1.out, HN2.out, by omega, by omega, by omega, fun e => by have := HL1.out _ e; omega, fun e => by have := HL1.out _ e; omega, fun e => by have := HL2.out _ e; omega, fun e => by have := HL2.out _ e; omega⟩⟩
        case' g21_5 =>
          have hb29 : Below V20.heap.size V20 (V20.alloc (.cells #[.int .u8 0, .int .u8 0, .int .u8 0, .int .u64 0, .int .u64 0, .bool false, .int .u8 0, .int .u64 0, .int .u64 0, .string ⟨#[]⟩, .slice none 0 0, .int .u8 0, .int .u8 0, .int .i64 0, .int .u8 0, .int .u8 0, .int .u64 0, .int .u64 0, .int .u64 0, .int .u64 0, .int .u64 0] 44)) := (Below.refl _ _).alloc (Nat.le_refl _) _
          go_simp
          refine hK.out _ _ ?_ (fun hh29 => ?_)
          · exact ⟨(hh20'.1.trans (hb29.mono (hh20'.1.size))), (own_below hh20'.2.1 hb29), (hh20'.2.2.below hb29)⟩
          clear hK K
          try simp only [heldPut, List.set]
          have hc29 : CellsF (V20.alloc (.cells #[.int .u8 0, .int .u8 0, .int .u8 0, .int .u64 0, .int .u64 0, .bool false, .int .u8 0, .int .u64 0, .int .u64 0, .string ⟨#[]⟩, .slice none 0 0, .int .u8 0, .int .u8 0, .int .i64 0, .int .u8 0, .int .u8 0, .int .u64 0, .int .u64 0, .int .u64 0, .int .u64 0, .int .u64 0] 44)) V20.heap.size 44 := CellsF.new _ _ _ rfl
          have hz29 : (V20.alloc (.cells #[.int .u8 0, .int .u8 0, .int .u8 0, .int .u64 0, .int .u64 0, .bool false, .int .u8 0, .int .u64 0, .int .u64 0, .string ⟨#[]⟩, .slice none 0 0, .int .u8 0, .int .u8 0, .int .i64 0, .int .u8 0, .int .u8 0, .int .u64 0, .int .u64 0, .int .u64 0, .int .u64 0, .int .u64 0] 44)).heap.size = V20.heap.size + 1 := by simp
          generalize hV29 : V20.alloc (.cells #[.int .u8 0, .int .u8 0, .int .u8 0, .int .u64 0, .int .u64 0, .bool false, .int .u8 0, .int .u64 0, .int .u64 0, .string ⟨#[]⟩, .slice none 0 0, .int .u8 0, .int .u8 0, .int .i64 0, .int .u8 0, .int .u8 0, .int .u64 0, .int .u64 0, .int .u64 0, .int .u64 0, .int .u64 0] 44) = V29 at *
          clear hV29 hb29
          refine heldMore (S2 := (fun V : World => Below w1.heap.size w1 V ∧ V.ownsRow w2.heap.size 101 2 (.slice A1 n1 c1) n1 (cellsP x.i.l) ∧ CellsF V V2.heap.size 44 ∧ CellsF V V20.heap.size 44)) (fun _ h => ⟨h.1, h.2.1, h.2.2.1⟩) ?_
          have hh29' : (fun V : World => Below w1.heap.size w1 V ∧ V.ownsRow w2.heap.size 101 2 (.slice A1 n1 c1) n1 (cellsP x.i.l) ∧ CellsF V V2.heap.size 44 ∧ CellsF V V20.heap.size 44) V29 := ⟨hh29.1, hh29.2.1, hh29.2.2, hc29⟩
          clear hh29 hc29
          replace hz29 : V20.heap.size + 1 ≤ V29.heap.size := by omega
          refine heldOne (i := 3) rfl (by kernel_rfl) (fun K hK => ?_)
          go_simp
          refine (smallF_as HX2.out HS2.out _).mono ?_
          rintro e V31 ⟨A2, n2, c2, rfl, hn2, ho2, hb31⟩
          have HN2 := Lib.hid hn2
          clear hn2
          go_wp2_with fail
          refine hK.out _ _ ?_ (fun hh31 => ?_)
          · exact ⟨(hh29'.1.trans (hb31.mono (hh29'.1.size))), (own_below hh29'.2.1 hb31), (hh29'.2.2.1.below hb31), (hh29'.2.2.2.below hb31)⟩
          clear hK K
          try simp only [heldPut, List.set]
          have hz31 := hb31.size
          have HL2 : Hid (∀ k, (Value.slice A2 n2 c2).ownBlock = some k → V29.heap.size ≤ k ∧ k < V31.heap.size) := fun k e => ho2.lt k e
          refine heldMore (S2 := (fun V : World => Below w1.heap.size w1 V ∧ V.ownsRow w2.heap.size 101 2 (.slice A1 n1 c1) n1 (cellsP x.i.l) ∧ CellsF V V2.heap.size 44 ∧ CellsF V V20.heap.size 44 ∧ V.ownsRow V29.heap.size 101 2 (.slice A2 n2 c2) n2 (cellsP y.i.l))) (fun _ h => ⟨h.1, h.2.1, h.2.2.1, h.2.2.2.1⟩) ?_
          have hh31' : (fun V : World => Below w1.heap.size w1 V ∧ V.ownsRow w2.heap.size 101 2 (.slice A1 n1 c1) n1 (cellsP x.i.l) ∧ CellsF V V2.heap.size 44 ∧ CellsF V V20.heap.size 44 ∧ V.ownsRow V29.heap.size 101 2 (.slice A2 n2 c2) n2 (cellsP y.i.l)) V31 := ⟨hh31.1, hh31.2.1, hh31.2.2.1, hh31.2.2.2, ho2⟩
          clear hh31 ho2 hb31
          refine heldOne (i := 6) rfl (by kernel_rfl) (fun K hK => ?_)
          rw [if_pos (by rfl)]
          obtain ⟨cs33, hcs33, hsz33⟩ := hh31'.2.2.1
          refine wp_store_row _ _ _ rfl (V2.heap.size) _ rfl rfl _ _ hcs33 Try.infoF hsz33 (by simp [Value.oneCell']) ?_
          refine hK.out _ _ ?_ (fun hh33 => ?_)
          · exact ⟨(below_setRow hh31'.1 (by omega) _), (own_setRowF hh31'.2.1 (fun e => by have := HL1.out _ e; omega) _), (hh31'.2.2.1.same _ rfl), (hh31'.2.2.2.1.other (by omega) _), (own_setRowF hh31'.2.2.2.2 (fun e => by have := HL2.out _ e; omega) _)⟩
          clear hK K
          have hX : (V31.setRow (V2.heap.size) #[.int .u8 x.k, .int .u8 x.f, .int .u8 x.t, .int .u64 x.e, .int .u64 x.q, .bool x.i.g, .int .u8 x.i.o, .int .u64 x.i.q, .int .u64 x.i.t, .string x.i.r, .slice A1 n1 c1, .int .u8 x.i.s, .int .u8 x.i.p, .int .i64 x.i.v, .int .u8 x.i.w, .int .u8 x.i.ga, .int .u64 x.i.gf, .int .u64 x.i.gt, .int .u64 x.c, .int .u64 x.b, .int .u64 x.l]).heap[V2.heap.size]? = some (.cells #[.int .u8 x.k, .int .u8 x.f, .int .u8 x.t, .int .u64 x.e, .int .u64 x.q, .bool x.i.g, .int .u8 x.i.o, .int .u64 x.i.q, .int .u64 x.i.t, .string x.i.r, .slice A1 n1 c1, .int .u8 x.i.s, .int .u8 x.i.p, .int .i64 x.i.v, .int .u8 x.i.w, .int .u8 x.i.ga, .int .u64 x.i.gf, .int .u64 x.i.gt, .int .u64 x.c, .int .u64 x.b, .int .u64 x.l] 44 (0, 0)) := setRow_heap _ _ _ _ _ _ hcs33
          generalize hV33 : V31.setRow (V2.heap.size) #[.int .u8 x.k, .int .u8 x.f, .int .u8 x.t, .int .u64 x.e, .int .u64 x.q, .bool x.i.g, .int .u8 x.i.o, .int .u64 x.i.q, .int .u64 x.i.t, .string x.i.r, .slice A1 n1 c1, .int .u8 x.i.s, .int .u8 x.i.p, .int .i64 x.i.v, .int .u8 x.i.w, .int .u8 x.i.ga, .int .u64 x.i.gf, .int .u64 x.i.gt, .int .u64 x.c, .int .u64 x.b, .int .u64 x.l] = V33 at *
          clear hV33 hcs33 hsz33 
          refine heldOne (i := 7) rfl (by kernel_rfl) (fun K hK => ?_)
          rw [if_pos (by rfl)]
          obtain ⟨cs35, hcs35, hsz35⟩ := hh33.2.2.2.1
          refine wp_store_row _ _ _ rfl (V20.heap.size) _ rfl rfl _ _ hcs35 Try.infoF hsz35 (by simp [Value.oneCell']) ?_
          refine hK.out _ _ ?_ (fun hh35 => ?_)
          · exact ⟨(below_setRow hh33.1 (by omega) _), (own_setRowF hh33.2.1 (fun e => by have := HL1.out _ e; omega) _), (hh33.2.2.1.other (by omega) _), (hh33.2.2.2.1.same _ rfl), (own_setRowF hh33.2.2.2.2 (fun e => by have := HL2.out _ e; omega) _)⟩
          clear hK K
          have hY : (V33.setRow (V20.heap.size) #[.int .u8 y.k, .int .u8 y.f, .int .u8 y.t, .int .u64 y.e, .int .u64 y.q, .bool y.i.g, .int .u8 y.i.o, .int .u64 y.i.q, .int .u64 y.i.t, .string y.i.r, .slice A2 n2 c2, .int .u8 y.i.s, .int .u8 y.i.p, .int .i64 y.i.v, .int .u8 y.i.w, .int .u8 y.i.ga, .int .u64 y.i.gf, .int .u64 y.i.gt, .int .u64 y.c, .int .u64 y.b, .int .u64 y.l]).heap[V20.heap.size]? = some (.cells #[.int .u8 y.k, .int .u8 y.f, .int .u8 y.t, .int .u64 y.e, .int .u64 y.q, .bool y.i.g, .int .u8 y.i.o, .int .u64 y.i.q, .int .u64 y.i.t, .string y.i.r, .slice A2 n2 c2, .int .u8 y.i.s, .int .u8 y.i.p, .int .i64 y.i.v, .int .u8 y.i.w, .int .u8 y.i.ga, .int .u64 y.i.gf, .int .u64 y.i.gt, .int .u64 y.c, .int .u64 y.b, .int .u64 y.l] 44 (0, 0)) := setRow_heap _ _ _ _ _ _ hcs35
          have hX' : (V33.setRow (V20.heap.size) #[.int .u8 y.k, .int .u8 y.f, .int .u8 y.t, .int .u64 y.e, .int .u64 y.q, .bool y.i.g, .int .u8 y.i.o, .int .u64 y.i.q, .int .u64 y.i.t, .string y.i.r, .slice A2 n2 c2, .int .u8 y.i.s, .int .u8 y.i.p, .int .i64 y.i.v, .int .u8 y.i.w, .int .u8 y.i.ga, .int .u64 y.i.gf, .int .u64 y.i.gt, .int .u64 y.c, .int .u64 y.b, .int .u64 y.l]).heap[V2.heap.size]? = some (.cells #[.int .u8 x.k, .int .u8 x.f, .int .u8 x.t, .int .u64 x.e, .int .u64 x.q, .bool x.i.g, .int .u8 x.i.o, .int .u64 x.i.q, .int .u64 x.i.t, .string x.i.r, .slice A1 n1 c1, .int .u8 x.i.s, .int .u8 x.i.p, .int .i64 x.i.v, .int .u8 x.i.w, .int .u8 x.i.ga, .int .u64 x.i.gf, .int .u64 x.i.gt, .int .u64 x.c, .int .u64 x.b, .int .u64 x.l] 44 (0, 0)) := (setRow_other _ _ _ _ (by omega)).trans hX
          generalize hV35 : V33.setRow (V20.heap.size) #[.int .u8 y.k, .int .u8 y.f, .int .u8 y.t, .int .u64 y.e, .int .u64 y.q, .bool y.i.g, .int .u8 y.i.o, .int .u64 y.i.q, .int .u64 y.i.t, .string y.i.r, .slice A2 n2 c2, .int .u8 y.i.s, .int .u8 y.i.p, .int .i64 y.i.v, .int .u8 y.i.w, .int .u8 y.i.ga, .int .u64 y.i.gf, .int .u64 y.i.gt, .int .u64 y.c, .int .u64 y.b, .int .u64 y.l] = V35 at *
          clear hV35 hcs35 hsz35 hX
          refine wpAnyH_done (by kernel_rfl) ?_ _
          refine NoPanic.normal ?_
          go_wp2_with fail
          go_meet
          exact ⟨V2.heap.size, V20.heap.size, A1, n1, c1, A2, n2, c2, rfl, rfl, ⟨Hb1.out.trans (hh35.1.mono hw1), hX', hY, ownB_mono hh35.2.1 (by omega), ownB_mono hh35.2.2.2.2 (by omega), HN1.out, HN2.out, by omega, by omega, by omega, fun e => by have := HL1.out _ e; omega, fun e => by have := HL1.out _ e; omega, fun e => by have := HL2.out _ e; omega, fun e => by have := HL2.out _ e; omega⟩⟩
      case g3_5 =>
        have hb36 : Below V2.heap.size V2 (V2.alloc (.cells #[.int .u8 0, .int .u8 0, .int .u8 0, .int .u64 0, .int .u64 0, .bool false, .int .u8 0, .int .u64 0, .int .u64 0, .string ⟨#[]⟩, .slice none 0 0, .int .u8 0, .int .u8 0, .int .i64 0, .int .u8 0, .int .u8 0, .int .u64 0, .int .u64 0, .int .u64 0, .int .u64 0, .int .u64 0] 44)) := (Below.refl _ _).alloc (Nat.le_refl _) _
        go_simp
        refine hK.out _ _ ?_ (fun hh36 => ?_)
        · exact ⟨(hh2'.1.trans (hb36.mono (hh2'.1.size))), (own_below hh2'.2 hb36)⟩
        clear hK K
        try simp only [heldPut, List.set]
        have hc36 : CellsF (V2.alloc (.cells #[.int .u8 0, .int .u8 0, .int .u8 0, .int .u64 0, .int .u64 0, .bool false, .int .u8 0, .int .u64 0, .int .u64 0, .string ⟨#[]⟩, .slice none 0 0, .int .u8 0, .int .u8 0, .int .i64 0, .int .u8 0, .int .u8 0, .int .u64 0, .int .u64 0, .int .u64 0, .int .u64 0, .int .u64 0] 44)) V2.heap.size 44 := CellsF.new _ _ _ rfl
        have hz36 : (V2.alloc (.cells #[.int .u8 0, .int .u8 0, .int .u8 0, .int .u64 0, .int .u64 0, .bool false, .int .u8 0, .int .u64 0, .int .u64 0, .string ⟨#[]⟩, .slice none 0 0, .int .u8 0, .int .u8 0, .int .i64 0, .int .u8 0, .int .u8 0, .int .u64 0, .int .u64 0, .int .u64 0, .int .u64 0, .int .u64 0] 44)).heap.size = V2.heap.size + 1 := by simp
        generalize hV36 : V2.alloc (.cells #[.int .u8 0, .int .u8 0, .int .u8 0, .int .u64 0, .int .u64 0, .bool false, .int .u8 0, .int .u64 0, .int .u64 0, .string ⟨#[]⟩, .slice none 0 0, .int .u8 0, .int .u8 0, .int .i64 0, .int .u8 0, .int .u8 0, .int .u64 0, .int .u64 0, .int .u64 0, .int .u64 0, .int .u64 0] 44) = V36 at *
        clear hV36 hb36
        refine heldMore (S2 := (fun V : World => Below w1.heap.size w1 V ∧ V.ownsRow w2.heap.size 101 2 (.slice A1 n1 c1) n1 (cellsP x.i.l) ∧ CellsF V V2.heap.size 44)) (fun _ h => ⟨h.1, h.2.1⟩) ?_
        have hh36' : (fun V : World => Below w1.heap.size w1 V ∧ V.ownsRow w2.heap.size 101 2 (.slice A1 n1 c1) n1 (cellsP x.i.l) ∧ CellsF V V2.heap.size 44) V36 := ⟨hh36.1, hh36.2, hc36⟩
        clear hh36 hc36
        replace hz36 : V2.heap.size + 1 ≤ V36.heap.size := by omega
        refine heldTwo (i := 3) (j := 4) rfl rfl (by kernel_rfl) (fun K hK => ?g37_3) (fun K hK => ?g37_4)
        case' g37_3 =>
          go_simp
          refine (smallF_as HX2.out HS2.out _).mono ?_
          rintro e V38 ⟨A2, n2, c2, rfl, hn2, ho2, hb38⟩
          have HN2 := Lib.hid hn2
          clear hn2
          go_wp2_with fail
          refine hK.out _ _ ?_ (fun hh38 => ?_)
          · exact ⟨(hh36'.1.trans (hb38.mono (hh36'.1.size))), (own_below hh36'.2.1 hb38), (hh36'.2.2.below hb38)⟩
          clear hK K
          try simp only [heldPut, List.set]
          have hz38 := hb38.size
          have HL2 : Hid (∀ k, (Value.slice A2 n2 c2).ownBlock = some k → V36.heap.size ≤ k ∧ k < V38.heap.size) := fun k e => ho2.lt k e
          refine heldMore (S2 := (fun V : World => Below w1.heap.size w1 V ∧ V.ownsRow w2.heap.size 101 2 (.slice A1 n1 c1) n1 (cellsP x.i.l) ∧ CellsF V V2.heap.size 44 ∧ V.ownsRow V36.heap.size 101 2 (.slice A2 n2 c2) n2 (cellsP y.i.l))) (fun _ h => ⟨h.1, h.2.1, h.2.2.1⟩) ?_
          have hh38' : (fun V : World => Below w1.heap.size w1 V ∧ V.ownsRow w2.heap.size 101 2 (.slice A1 n1 c1) n1 (cellsP x.i.l) ∧ CellsF V V2.heap.size 44 ∧ V.ownsRow V36.heap.size 101 2 (.slice A2 n2 c2) n2 (cellsP y.i.l)) V38 := ⟨hh38.1, hh38.2.1, hh38.2.2, ho2⟩
          clear hh38 ho2 hb38
          refine heldOne (i := 4) rfl (by kernel_rfl) (fun K hK => ?_)
          have hb40 : Below V38.heap.size V38 (V38.alloc (.cells #[.int .u8 0, .int .u8 0, .int .u8 0, .int .u64 0, .int .u64 0, .bool false, .int .u8 0, .int .u64 0, .int .u64 0, .string ⟨#[]⟩, .slice none 0 0, .int .u8 0, .int .u8 0, .int .i64 0, .int .u8 0, .int .u8 0, .int .u64 0, .int .u64 0, .int .u64 0, .int .u64 0, .int .u64 0] 44)) := (Below.refl _ _).alloc (Nat.le_refl _) _
          go_simp
          refine hK.out _ _ ?_ (fun hh40 => ?_)
          · exact ⟨(hh38'.1.trans (hb40.mono (hh38'.1.size))), (own_below hh38'.2.1 hb40), (hh38'.2.2.1.below hb40), (own_below hh38'.2.2.2 hb40)⟩
          clear hK K
          try simp only [heldPut, List.set]
          have hc40 : CellsF (V38.alloc (.cells #[.int .u8 0, .int .u8 0, .int .u8 0, .int .u64 0, .int .u64 0, .bool false, .int .u8 0, .int .u64 0, .int .u64 0, .string ⟨#[]⟩, .slice none 0 0, .int .u8 0, .int .u8 0, .int .i64 0, .int .u8 0, .int .u8 0, .int .u64 0, .int .u64 0, .int .u64 0, .int .u64 0, .int .u64 0] 44)) V38.heap.size 44 := CellsF.new _ _ _ rfl
          have hz40 : (V38.alloc (.cells #[.int .u8 0, .int .u8 0, .int .u8 0, .int .u64 0, .int .u64 0, .bool false, .int .u8 0, .int .u64 0, .int .u64 0, .string ⟨#[]⟩, .slice none 0 0, .int .u8 0, .int .u8 0, .int .i64 0, .int .u8 0, .int .u8 0, .int .u64 0, .int .u64 0, .int .u64 0, .int .u64 0, .int .u64 0] 44)).heap.size = V38.heap.size + 1 := by simp
          generalize hV40 : V38.alloc (.cells #[.int .u8 0, .int .u8 0, .int .u8 0, .int .u64 0, .int .u64 0, .bool false, .int .u8 0, .int .u64 0, .int .u64 0, .string ⟨#[]⟩, .slice none 0 0, .int .u8 0, .int .u8 0, .int .i64 0, .int .u8 0, .int .u8 0, .int .u64 0, .int .u64 0, .int .u64 0, .int .u64 0, .int .u64 0] 44) = V40 at *
          clear hV40 hb40
          refine heldMore (S2 := (fun V : World => Below w1.heap.size w1 V ∧ V.ownsRow w2.heap.size 101 2 (.slice A1 n1 c1) n1 (cellsP x.i.l) ∧ CellsF V V2.heap.size 44 ∧ V.ownsRow V36.heap.size 101 2 (.slice A2 n2 c2) n2 (cellsP y.i.l) ∧ CellsF V V38.heap.size 44)) (fun _ h => ⟨h.1, h.2.1, h.2.2.1, h.2.2.2.1⟩) ?_
          have hh40' : (fun V : World => Below w1.heap.size w1 V ∧ V.ownsRow w2.heap.size 101 2 (.slice A1 n1 c1) n1 (cellsP x.i.l) ∧ CellsF V V2.heap.size 44 ∧ V.ownsRow V36.heap.size 101 2 (.slice A2 n2 c2) n2 (cellsP y.i.l) ∧ CellsF V V38.heap.size 44) V40 := ⟨hh40.1, hh40.2.1, hh40.2.2.1, hh40.2.2.2, hc40⟩
          clear hh40 hc40
          replace hz40 : V38.heap.size + 1 ≤ V40.heap.size := by omega
          refine heldOne (i := 6) rfl (by kernel_rfl) (fun K hK => ?_)
          rw [if_pos (by rfl)]
          obtain ⟨cs42, hcs42, hsz42⟩ := hh40'.2.2.2.2
          refine wp_store_row _ _ _ rfl (V38.heap.size) _ rfl rfl _ _ hcs42 Try.infoF hsz42 (by simp [Value.oneCell']) ?_
          refine hK.out _ _ ?_ (fun hh42 => ?_)
          · exact ⟨(below_setRow hh40'.1 (by omega) _), (own_setRowF hh40'.2.1 (fun e => by have := HL1.out _ e; omega) _), (hh40'.2.2.1.other (by omega) _), (own_setRowF hh40'.2.2.2.1 (fun e => by have := HL2.out _ e; omega) _), (hh40'.2.2.2.2.same _ rfl)⟩
          clear hK K
          have hX : (V40.setRow (V38.heap.size) #[.int .u8 x.k, .int .u8 x.f, .int .u8 x.t, .int .u64 x.e, .int .u64 x.q, .bool x.i.g, .int .u8 x.i.o, .int .u64 x.i.q, .int .u64 x.i.t, .string x.i.r, .slice A1 n1 c1, .int .u8 x.i.s, .int .u8 x.i.p, .int .i64 x.i.v, .int .u8 x.i.w, .int .u8 x.i.ga, .int .u64 x.i.gf, .int .u64 x.i.gt, .int .u64 x.c, .int .u64 x.b, .int .u64 x.l]).heap[V38.heap.size]? = some (.cells #[.int .u8 x.k, .int .u8 x.f, .int .u8 x.t, .int .u64 x.e, .int .u64 x.q, .bool x.i.g, .int .u8 x.i.o, .int .u64 x.i.q, .int .u64 x.i.t, .string x.i.r, .slice A1 n1 c1, .int .u8 x.i.s, .int .u8 x.i.p, .int .i64 x.i.v, .int .u8 x.i.w, .int .u8 x.i.ga, .int .u64 x.i.gf, .int .u64 x.i.gt, .int .u64 x.c, .int .u64 x.b, .int .u64 x.l] 44 (0, 0)) := setRow_heap _ _ _ _ _ _ hcs42
          generalize hV42 : V40.setRow (V38.heap.size) #[.int .u8 x.k, .int .u8 x.f, .int .u8 x.t, .int .u64 x.e, .int .u64 x.q, .bool x.i.g, .int .u8 x.i.o, .int .u64 x.i.q, .int .u64 x.i.t, .string x.i.r, .slice A1 n1 c1, .int .u8 x.i.s, .int .u8 x.i.p, .int .i64 x.i.v, .int .u8 x.i.w, .int .u8 x.i.ga, .int .u64 x.i.gf, .int .u64 x.i.gt, .int .u64 x.c, .int .u64 x.b, .int .u64 x.l] = V42 at *
          clear hV42 hcs42 hsz42 
          refine heldOne (i := 7) rfl (by kernel_rfl) (fun K hK => ?_)
          rw [if_pos (by rfl)]
          obtain ⟨cs44, hcs44, hsz44⟩ := hh42.2.2.1
          refine wp_store_row _ _ _ rfl (V2.heap.size) _ rfl rfl _ _ hcs44 Try.infoF hsz44 (by simp [Value.oneCell']) ?_
          refine hK.out _ _ ?_ (fun hh44 => ?_)
          · exact ⟨(below_setRow hh42.1 (by omega) _), (own_setRowF hh42.2.1 (fun e => by have := HL1.out _ e; omega) _), (hh42.2.2.1.same _ rfl), (own_setRowF hh42.2.2.2.1 (fun e => by have := HL2.out _ e; omega) _), (hh42.2.2.2.2.other (by omega) _)⟩
          clear hK K
          have hY : (V42.setRow (V2.heap.size) #[.int .u8 y.k, .int .u8 y.f, .int .u8 y.t, .int .u64 y.e, .int .u64 y.q, .bool y.i.g, .int .u8 y.i.o, .int .u64 y.i.q, .int .u64 y.i.t, .string y.i.r, .slice A2 n2 c2, .int .u8 y.i.s, .int .u8 y.i.p, .int .i64 y.i.v, .int .u8 y.i.w, .int .u8 y.i.ga, .int .u64 y.i.gf, .int .u64 y.i.gt, .int .u64 y.c, .int .u64 y.b, .int .u64 y.l]).heap[V2.heap.size]? = some (.cells #[.int .u8 y.k, .int .u8 y.f, .int .u8 y.t, .int .u64 y.e, .int .u64 y.q, .bool y.i.g, .int .u8 y.i.o, .int .u64 y.i.q, .int .u64 y.i.t, .string y.i.r, .slice A2 n2 c2, .int .u8 y.i.s, .int .u8 y.i.p, .int .i64 y.i.v, .int .u8 y.i.w, .int .u8 y.i.ga, .int .u64 y.i.gf, .int .u64 y.i.gt, .int .u64 y.c, .int .u64 y.b, .int .u64 y.l] 44 (0, 0)) := setRow_heap _ _ _ _ _ _ hcs44
          have hX' : (V42.setRow (V2.heap.size) #[.int .u8 y.k, .int .u8 y.f, .int .u8 y.t, .int .u64 y.e, .int .u64 y.q, .bool y.i.g, .int .u8 y.i.o, .int .u64 y.i.q, .int .u64 y.i.t, .string y.i.r, .slice A2 n2 c2, .int .u8 y.i.s, .int .u8 y.i.p, .int .i64 y.i.v, .int .u8 y.i.w, .int .u8 y.i.ga, .int .u64 y.i.gf, .int .u64 y.i.gt, .int .u64 y.c, .int .u64 y.b, .int .u64 y.l]).heap[V38.heap.size]? = some (.cells #[.int .u8 x.k, .int .u8 x.f, .int .u8 x.t, .int .u64 x.e, .int .u64 x.q, .bool x.i.g, .int .u8 x.i.o, .int .u64 x.i.q, .int .u64 x.i.t, .string x.i.r, .slice A1 n1 c1, .int .u8 x.i.s, .int .u8 x.i.p, .int .i64 x.i.v, .int .u8 x.i.w, .int .u8 x.i.ga, .int .u64 x.i.gf, .int .u64 x.i.gt, .int .u64 x.c, .int .u64 x.b, .int .u64 x.l] 44 (0, 0)) := (setRow_other _ _ _ _ (by omega)).trans hX
          generalize hV44 : V42.setRow (V2.heap.size) #[.int .u8 y.k, .int .u8 y.f, .int .u8 y.t, .int .u64 y.e, .int .u64 y.q, .bool y.i.g, .int .u8 y.i.o, .int .u64 y.i.q, .int .u64 y.i.t, .string y.i.r, .slice A2 n2 c2, .int .u8 y.i.s, .int .u8 y.i.p, .int .i64 y.i.v, .int .u8 y.i.w, .int .u8 y.i.ga, .int .u64 y.i.gf, .int .u64 y.i.gt, .int .u64 y.c, .int .u64 y.b, .int .u64 y.l] = V44 at *
          clear hV44 hcs44 hsz44 hX
          refine wpAnyH_done (by kernel_rfl) ?_ _
          refine NoPanic.normal ?_
          go_wp2_with fail
          go_meet
          exact ⟨V38.heap.size, V2.heap.size, A1, n1, c1, A2, n2, c2, rfl, rfl, ⟨Hb1.out.trans (hh44.1.mono hw1), hX', hY, ownB_mono hh44.2.1 (by omega), ownB_mono hh44.2.2.2.1 (by omega), HN1.out, HN2.out, by omega, by omega, by omega, fun e => by have := HL1.out _ e; omega, fun e => by have := HL1.out _ e; omega, fun e => by have := HL2.out _ e; omega, fun e => by have := HL2.out _ e; omega⟩⟩
        case' g37_4 =>
          have hb45 : Below V36.heap.size V36 (V36.alloc (.cells #[.int .u8 0, .int .u8 0, .int .u8 0, .int .u64 0, .int .u64 0, .bool false, .int .u8 0, .int .u64 0, .int .u64 0, .string ⟨#[]⟩, .slice none 0 0, .int .u8 0, .int .u8 0, .int .i64 0, .int .u8 0, .int .u8 0, .int .u64 0, .int .u64 0, .int .u64 0, .int .u64 0, .int .u64 0] 44)) := (Below.refl _ _).alloc (Nat.le_refl _) _
          go_simp
          refine hK.out _ _ ?_ (fun hh45 => ?_)
          · exact ⟨(hh36'.1.trans (hb45.mono (hh36'.1.size))), (own_below hh36'.2.1 hb45), (hh36'.2.2.below hb45)⟩
          clear hK K
          try simp only [heldPut, List.set]
          have hc45 : CellsF (V36.alloc (.cells #[.int .u8 0, .int .u8 0, .int .u8 0, .int .u64 0, .int .u64 0, .bool false, .int .u8 0, .int .u64 0, .int .u64 0, .string ⟨#[]⟩, .slice none 0 0, .int .u8 0, .int .u8 0, .int .i64 0, .int .u8 0, .int .u8 0, .int .u64 0, .int .u64 0, .int .u64 0, .int .u64 0, .int .u64 0] 44)) V36.heap.size 44 := CellsF.new _ _ _ rfl
          have hz45 : (V36.alloc (.cells #[.int .u8 0, .int .u8 0, .int .u8 0, .int .u64 0, .int .u64 0, .bool false, .int .u8 0, .int .u64 0, .int .u64 0, .string ⟨#[]⟩, .slice none 0 0, .int .u8 0, .int .u8 0, .int .i64 0, .int .u8 0, .int .u8 0, .int .u64 0, .int .u64 0, .int .u64 0, .int .u64 0, .int .u64 0] 44)).heap.size = V36.heap.size + 1 := by simp
          generalize hV45 : V36.alloc (.cells #[.int .u8 0, .int .u8 0, .int .u8 0, .int .u64 0, .int .u64 0, .bool false, .int .u8 0, .int .u64 0, .int .u64 0, .string ⟨#[]⟩, .slice none 0 0, .int .u8 0, .int .u8 0, .int .i64 0, .int .u8 0, .int .u8 0, .int .u64 0, .int .u64 0, .int .u64 0, .int .u64 0, .int .u64 0] 44) = V45 at *
          clear hV45 hb45
          refine heldMore (S2 := (fun V : World => Below w1.heap.size w1 V ∧ V.ownsRow w2.heap.size 101 2 (.slice A1 n1 c1) n1 (cellsP x.i.l) ∧ CellsF V V2.heap.size 44 ∧ CellsF V V36.heap.size 44)) (fun _ h => ⟨h.1, h.2.1, h.2.2.1⟩) ?_
          have hh45' : (fun V : World => Below w1.heap.size w1 V ∧ V.ownsRow w2.heap.size 101 2 (.slice A1 n1 c1) n1 (cellsP x.i.l) ∧ CellsF V V2.heap.size 44 ∧ CellsF V V36.heap.size 44) V45 := ⟨hh45.1, hh45.2.1, hh45.2.2, hc45⟩
          clear hh45 hc45
          replace hz45 : V36.heap.size + 1 ≤ V45.heap.size := by omega
          refine heldOne (i := 3) rfl (by kernel_rfl) (fun K hK => ?_)
          go_simp
          refine (smallF_as HX2.out HS2.out _).mono ?_
          rintro e V47 ⟨A2, n2, c2, rfl, hn2, ho2, hb47⟩
          have HN2 := Lib.hid hn2
          clear hn2
          go_wp2_with fail
          refine hK.out _ _ ?_ (fun hh47 => ?_)
          · exact ⟨(hh45'.1.trans (hb47.mono (hh45'.1.size))), (own_below hh45'.2.1 hb47), (hh45'.2.2.1.below hb47), (hh45'.2.2.2.below hb47)⟩
          clear hK K
          try simp only [heldPut, List.set]
          have hz47 := hb47.size
          have HL2 : Hid (∀ k, (Value.slice A2 n2 c2).ownBlock = some k → V45.heap.size ≤ k ∧ k < V47.heap.size) := fun k e => ho2.lt k e
          refine heldMore (S2 := (fun V : World => Below w1.heap.size w1 V ∧ V.ownsRow w2.heap.size 101 2 (.slice A1 n1 c1) n1 (cellsP x.i.l) ∧ CellsF V V2.heap.size 44 ∧ CellsF V V36.heap.size 44 ∧ V.ownsRow V45.heap.size 101 2 (.slice A2 n2 c2) n2 (cellsP y.i.l))) (fun _ h => ⟨h.1, h.2.1, h.2.2.1, h.2.2.2.1⟩) ?_
          have hh47' : (fun V : World => Below w1.heap.size w1 V ∧ V.ownsRow w2.heap.size 101 2 (.slice A1 n1 c1) n1 (cellsP x.i.l) ∧ CellsF V V2.heap.size 44 ∧ CellsF V V36.heap.size 44 ∧ V.ownsRow V45.heap.size 101 2 (.slice A2 n2 c2) n2 (cellsP y.i.l)) V47 := ⟨hh47.1, hh47.2.1, hh47.2.2.1, hh47.2.2.2, ho2⟩
          clear hh47 ho2 hb47
          refine heldOne (i := 6) rfl (by kernel_rfl) (fun K hK => ?_)
          rw [if_pos (by rfl)]
          obtain ⟨cs49, hcs49, hsz49⟩ := hh47'.2.2.2.1
          refine wp_store_row _ _ _ rfl (V36.heap.size) _ rfl rfl _ _ hcs49 Try.infoF hsz49 (by simp [Value.oneCell']) ?_
          refine hK.out _ _ ?_ (fun hh49 => ?_)
          · exact ⟨(below_setRow hh47'.1 (by omega) _), (own_setRowF hh47'.2.1 (fun e => by have := HL1.out _ e; omega) _), (hh47'.2.2.1.other (by omega) _), (hh47'.2.2.2.1.same _ rfl), (own_setRowF hh47'.2.2.2.2 (fun e => by have := HL2.out _ e; omega) _)⟩
          clear hK K
          have hX : (V47.setRow (V36.heap.size) #[.int .u8 x.k, .int .u8 x.f, .int .u8 x.t, .int .u64 x.e, .int .u64 x.q, .bool x.i.g, .int .u8 x.i.o, .int .u64 x.i.q, .int .u64 x.i.t, .string x.i.r, .slice A1 n1 c1, .int .u8 x.i.s, .int .u8 x.i.p, .int .i64 x.i.v, .int .u8 x.i.w, .int .u8 x.i.ga, .int .u64 x.i.gf, .int .u64 x.i.gt, .int .u64 x.c, .int .u64 x.b, .int .u64 x.l]).heap[V36.heap.size]? = some (.cells #[.int .u8 x.k, .int .u8 x.f, .int .u8 x.t, .int .u64 x.e, .int .u64 x.q, .bool x.i.g, .int .u8 x.i.o, .int .u64 x.i.q, .int .u64 x.i.t, .string x.i.r, .slice A1 n1 c1, .int .u8 x.i.s, .int .u8 x.i.p, .int .i64 x.i.v, .int .u8 x.i.w, .int .u8 x.i.ga, .int .u64 x.i.gf, .int .u64 x.i.gt, .int .u64 x.c, .int .u64 x.b, .int .u64 x.l] 44 (0, 0)) := setRow_heap _ _ _ _ _ _ hcs49
          generalize hV49 : V47.setRow (V36.heap.size) #[.int .u8 x.k, .int .u8 x.f, .int .u8 x.t, .int .u64 x.e, .int .u64 x.q, .bool x.i.g, .int .u8 x.i.o, .int .u64 x.i.q, .int .u64 x.i.t, .string x.i.r, .slice A1 n1 c1, .int .u8 x.i.s, .int .u8 x.i.p, .int .i64 x.i.v, .int .u8 x.i.w, .int .u8 x.i.ga, .int .u64 x.i.gf, .int .u64 x.i.gt, .int .u64 x.c, .int .u64 x.b, .int .u64 x.l] = V49 at *
          clear hV49 hcs49 hsz49 
          refine heldOne (i := 7) rfl (by kernel_rfl) (fun K hK => ?_)
          rw [if_pos (by rfl)]
          obtain ⟨cs51, hcs51, hsz51⟩ := hh49.2.2.1
          refine wp_store_row _ _ _ rfl (V2.heap.size) _ rfl rfl _ _ hcs51 Try.infoF hsz51 (by simp [Value.oneCell']) ?_
          refine hK.out _ _ ?_ (fun hh51 => ?_)
          · exact ⟨(below_setRow hh49.1 (by omega) _), (own_setRowF hh49.2.1 (fun e => by have := HL1.out _ e; omega) _), (hh49.2.2.1.same _ rfl), (hh49.2.2.2.1.other (by omega) _), (own_setRowF hh49.2.2.2.2 (fun e => by have := HL2.out _ e; omega) _)⟩
          clear hK K
          have hY : (V49.setRow (V2.heap.size) #[.int .u8 y.k, .int .u8 y.f, .int .u8 y.t, .int .u64 y.e, .int .u64 y.q, .bool y.i.g, .int .u8 y.i.o, .int .u64 y.i.q, .int .u64 y.i.t, .string y.i.r, .slice A2 n2 c2, .int .u8 y.i.s, .int .u8 y.i.p, .int .i64 y.i.v, .int .u8 y.i.w, .int .u8 y.i.ga, .int .u64 y.i.gf, .int .u64 y.i.gt, .int .u64 y.c, .int .u64 y.b, .int .u64 y.l]).heap[V2.heap.size]? = some (.cells #[.int .u8 y.k, .int .u8 y.f, .int .u8 y.t, .int .u64 y.e, .int .u64 y.q, .bool y.i.g, .int .u8 y.i.o, .int .u64 y.i.q, .int .u64 y.i.t, .string y.i.r, .slice A2 n2 c2, .int .u8 y.i.s, .int .u8 y.i.p, .int .i64 y.i.v, .int .u8 y.i.w, .int .u8 y.i.ga, .int .u64 y.i.gf, .int .u64 y.i.gt, .int .u64 y.c, .int .u64 y.b, .int .u64 y.l] 44 (0, 0)) := setRow_heap _ _ _ _ _ _ hcs51
          have hX' : (V49.setRow (V2.heap.size) #[.int .u8 y.k, .int .u8 y.f, .int .u8 y.t, .int .u64 y.e, .int .u64 y.q, .bool y.i.g, .int .u8 y.i.o, .int .u64 y.i.q, .int .u64 y.i.t, .string y.i.r, .slice A2 n2 c2, .int .u8 y.i.s, .int .u8 y.i.p, .int .i64 y.i.v, .int .u8 y.i.w, .int .u8 y.i.ga, .int .u64 y.i.gf, .int .u64 y.i.gt, .int .u64 y.c, .int .u64 y.b, .int .u64 y.l]).heap[V36.heap.size]? = some (.cells #[.int .u8 x.k, .int .u8 x.f, .int .u8 x.t, .int .u64 x.e, .int .u64 x.q, .bool x.i.g, .int .u8 x.i.o, .int .u64 x.i.q, .int .u64 x.i.t, .string x.i.r, .slice A1 n1 c1, .int .u8 x.i.s, .int .u8 x.i.p, .int .i64 x.i.v, .int .u8 x.i.w, .int .u8 x.i.ga, .int .u64 x.i.gf, .int .u64 x.i.gt, .int .u64 x.c, .int .u64 x.b, .int .u64 x.l] 44 (0, 0)) := (setRow_other _ _ _ _ (by omega)).trans hX
          generalize hV51 : V49.setRow (V2.heap.size) #[.int .u8 y.k, .int .u8 y.f, .int .u8 y.t, .int .u64 y.e, .int .u64 y.q, .bool y.i.g, .int .u8 y.i.o, .int .u64 y.i.q, .int .u64 y.i.t, .string y.i.r, .slice A2 n2 c2, .int .u8 y.i.s, .int .u8 y.i.p, .int .i64 y.i.v, .int .u8 y.i.w, .int .u8 y.i.ga, .int .u64 y.i.gf, .int .u64 y.i.gt, .int .u64 y.c, .int .u64 y.b, .int .u64 y.l] = V51 at *
          clear hV51 hcs51 hsz51 hX
          refine wpAnyH_done (by kernel_rfl) ?_ _
          refine NoPanic.normal ?_
          go_wp2_with fail
          go_meet
          exact ⟨V36.heap.size, V2.heap.size, A1, n1, c1, A2, n2, c2, rfl, rfl, ⟨Hb1.out.trans (hh51.1.mono hw1), hX', hY, ownB_mono hh51.2.1 (by omega), ownB_mono hh51.2.2.2.2 (by omega), HN1.out, HN2.out, by omega, by omega, by omega, fun e => by have := HL1.out _ e; omega, fun e => by have := HL1.out _ e; omega, fun e => by have := HL2.out _ e; omega, fun e => by have := HL2.out _ e; omega⟩⟩
    case g1_4 =>
      have hb52 : Below w2.heap.size w2 (w2.alloc (.cells #[.int .u8 0, .int .u8 0, .int .u8 0, .int .u64 0, .int .u64 0, .bool false, .int .u8 0, .int .u64 0, .int .u64 0, .string ⟨#[]⟩, .slice none 0 0, .int .u8 0, .int .u8 0, .int .i64 0, .int .u8 0, .int .u8 0, .int .u64 0, .int .u64 0, .int .u64 0, .int .u64 0, .int .u64 0] 44)) := (Below.refl _ _).alloc (Nat.le_refl _) _
      go_simp
      refine hK.out _ _ ?_ (fun hh52 => ?_)
      · exact (hHeld.trans (hb52.mono (hHeld.size)))
      clear hK K
      try simp only [heldPut, List.set]
      have hc52 : CellsF (w2.alloc (.cells #[.int .u8 0, .int .u8 0, .int .u8 0, .int .u64 0, .int .u64 0, .bool false, .int .u8 0, .int .u64 0, .int .u64 0, .string ⟨#[]⟩, .slice none 0 0, .int .u8 0, .int .u8 0, .int .i64 0, .int .u8 0, .int .u8 0, .int .u64 0, .int .u64 0, .int .u64 0, .int .u64 0, .int .u64 0] 44)) w2.heap.size 44 := CellsF.new _ _ _ rfl
      have hz52 : (w2.alloc (.cells #[.int .u8 0, .int .u8 0, .int .u8 0, .int .u64 0, .int .u64 0, .bool false, .int .u8 0, .int .u64 0, .int .u64 0, .string ⟨#[]⟩, .slice none 0 0, .int .u8 0, .int .u8 0, .int .i64 0, .int .u8 0, .int .u8 0, .int .u64 0, .int .u64 0, .int .u64 0, .int .u64 0, .int .u64 0] 44)).heap.size = w2.heap.size + 1 := by simp
      generalize hV52 : w2.alloc (.cells #[.int .u8 0, .int .u8 0, .int .u8 0, .int .u64 0, .int .u64 0, .bool false, .int .u8 0, .int .u64 0, .int .u64 0, .string ⟨#[]⟩, .slice none 0 0, .int .u8 0, .int .u8 0, .int .i64 0, .int .u8 0, .int .u8 0, .int .u64 0, .int .u64 0, .int .u64 0, .int .u64 0, .int .u64 0] 44) = V52 at *
      clear hV52 hb52
      refine heldMore (S2 := (fun V : World => Below w1.heap.size w1 V ∧ CellsF V w2.heap.size 44)) (fun _ h => h.1) ?_
      have hh52' : (fun V : World => Below w1.heap.size w1 V ∧ CellsF V w2.heap.size 44) V52 := ⟨hh52, hc52⟩
      clear hh52 hc52
      replace hz52 : w2.heap.size + 1 ≤ V52.heap.size := by omega
      refine heldTwo (i := 1) (j := 5) rfl rfl (by kernel_rfl) (fun K hK => ?g53_1) (fun K hK => ?g53_5)
      case g53_1 =>
        go_simp
        refine (smallF_as HX1.out HS1.out _).mono ?_
        rintro e V54 ⟨A1, n1, c1, rfl, hn1, ho1, hb54⟩
        have HN1 := Lib.hid hn1
        clear hn1
        go_wp2_with fail
        refine hK.out _ _ ?_ (fun hh54 => ?_)
        · exact ⟨(hh52'.1.trans (hb54.mono (hh52'.1.size))), (hh52'.2.below hb54)⟩
        clear hK K
        try simp only [heldPut, List.set]
        have hz54 := hb54.size
        have HL1 : Hid (∀ k, (Value.slice A1 n1 c1).ownBlock = some k → V52.heap.size ≤ k ∧ k < V54.heap.size) := fun k e => ho1.lt k e
        refine heldMore (S2 := (fun V : World => Below w1.heap.size w1 V ∧ CellsF V w2.heap.size 44 ∧ V.ownsRow V52.heap.size 101 2 (.slice A1 n1 c1) n1 (cellsP x.i.l))) (fun _ h => ⟨h.1, h.2.1⟩) ?_
        have hh54' : (fun V : World => Below w1.heap.size w1 V ∧ CellsF V w2.heap.size 44 ∧ V.ownsRow V52.heap.size 101 2 (.slice A1 n1 c1) n1 (cellsP x.i.l)) V54 := ⟨hh54.1, hh54.2, ho1⟩
        clear hh54 ho1 hb54
        refine heldTwo (i := 3) (j := 5) rfl rfl (by kernel_rfl) (fun K hK => ?g55_3) (fun K hK => ?g55_5)
        case' g55_3 =>
          go_simp
          refine (smallF_as HX2.out HS2.out _).mono ?_
          rintro e V56 ⟨A2, n2, c2, rfl, hn2, ho2, hb56⟩
          have HN2 := Lib.hid hn2
          clear hn2
          go_wp2_with fail
          refine hK.out _ _ ?_ (fun hh56 => ?_)
          · exact ⟨(hh54'.1.trans (hb56.mono (hh54'.1.size))), (hh54'.2.1.below hb56), (own_below hh54'.2.2 hb56)⟩
          clear hK K
          try simp only [heldPut, List.set]
          have hz56 := hb56.size
          have HL2 : Hid (∀ k, (Value.slice A2 n2 c2).ownBlock = some k → V54.heap.size ≤ k ∧ k < V56.heap.size) := fun k e => ho2.lt k e
          refine heldMore (S2 := (fun V : World => Below w1.heap.size w1 V ∧ CellsF V w2.heap.size 44 ∧ V.ownsRow V52.heap.size 101 2 (.slice A1 n1 c1) n1 (cellsP x.i.l) ∧ V.ownsRow V54.heap.size 101 2 (.slice A2 n2 c2) n2 (cellsP y.i.l))) (fun _ h => ⟨h.1, h.2.1, h.2.2.1⟩) ?_
          have hh56' : (fun V : World => Below w1.heap.size w1 V ∧ CellsF V w2.heap.size 44 ∧ V.ownsRow V52.heap.size 101 2 (.slice A1 n1 c1) n1 (cellsP x.i.l) ∧ V.ownsRow V54.heap.size 101 2 (.slice A2 n2 c2) n2 (cellsP y.i.l)) V56 := ⟨hh56.1, hh56.2.1, hh56.2.2, ho2⟩
          clear hh56 ho2 hb56
          refine heldOne (i := 5) rfl (by kernel_rfl) (fun K hK => ?_)
          have hb58 : Below V56.heap.size V56 (V56.alloc (.cells #[.int .u8 0, .int .u8 0, .int .u8 0, .int .u64 0, .int .u64 0, .bool false, .int .u8 0, .int .u64 0, .int .u64 0, .string ⟨#[]⟩, .slice none 0 0, .int .u8 0, .int .u8 0, .int .i64 0, .int .u8 0, .int .u8 0, .int .u64 0, .int .u64 0, .int .u64 0, .int .u64 0, .int .u64 0] 44)) := (Below.refl _ _).alloc (Nat.le_refl _) _
          go_simp
          refine hK.out _ _ ?_ (fun hh58 => ?_)
          · exact ⟨(hh56'.1.trans (hb58.mono (hh56'.1.size))), (hh56'.2.1.below hb58), (own_below hh56'.2.2.1 hb58), (own_below hh56'.2.2.2 hb58)⟩
          clear hK K
          try simp only [heldPut, List.set]
          have hc58 : CellsF (V56.alloc (.cells #[.int .u8 0, .int .u8 0, .int .u8 0, .int .u64 0, .int .u64 0, .bool false, .int .u8 0, .int .u64 0, .int .u64 0, .string ⟨#[]⟩, .slice none 0 0, .int .u8 0, .int .u8 0, .int .i64 0, .int .u8 0, .int .u8 0, .int .u64 0, .int .u64 0, .int .u64 0, .int .u64 0, .int .u64 0] 44)) V56.heap.size 44 := CellsF.new _ _ _ rfl
          have hz58 : (V56.alloc (.cells #[.int .u8 0, .int .u8 0, .int .u8 0, .int .u64 0, .int .u64 0, .bool false, .int .u8 0, .int .u64 0, .int .u64 0, .string ⟨#[]⟩, .slice none 0 0, .int .u8 0, .int .u8 0, .int .i64 0, .int .u8 0, .int .u8 0, .int .u64 0, .int .u64 0, .int .u64 0, .int .u64 0, .int .u64 0] 44)).heap.size = V56.heap.size + 1 := by simp
          generalize hV58 : V56.alloc (.cells #[.int .u8 0, .int .u8 0, .int .u8 0, .int .u64 0, .int .u64 0, .bool false, .int .u8 0, .int .u64 0, .int .u64 0, .string ⟨#[]⟩, .slice none 0 0, .int .u8 0, .int .u8 0, .int .i64 0, .int .u8 0, .int .u8 0, .int .u64 0, .int .u64 0, .int .u64 0, .int .u64 0, .int .u64 0] 44) = V58 at *
          clear hV58 hb58
          refine heldMore (S2 := (fun V : World => Below w1.heap.size w1 V ∧ CellsF V w2.heap.size 44 ∧ V.ownsRow V52.heap.size 101 2 (.slice A1 n1 c1) n1 (cellsP x.i.l) ∧ V.ownsRow V54.heap.size 101 2 (.slice A2 n2 c2) n2 (cellsP y.i.l) ∧ CellsF V V56.heap.size 44)) (fun _ h => ⟨h.1, h.2.1, h.2.2.1, h.2.2.2.1⟩) ?_
          have hh58' : (fun V : World => Below w1.heap.size w1 V ∧ CellsF V w2.heap.size 44 ∧ V.ownsRow V52.heap.size 101 2 (.slice A1 n1 c1) n1 (cellsP x.i.l) ∧ V.ownsRow V54.heap.size 101 2 (.slice A2 n2 c2) n2 (cellsP y.i.l) ∧ CellsF V V56.heap.size 44) V58 := ⟨hh58.1, hh58.2.1, hh58.2.2.1, hh58.2.2.2, hc58⟩
          clear hh58 hc58
          replace hz58 : V56.heap.size + 1 ≤ V58.heap.size := by omega
          refine heldOne (i := 6) rfl (by kernel_rfl) (fun K hK => ?_)
          rw [if_pos (by rfl)]
          obtain ⟨cs60, hcs60, hsz60⟩ := hh58'.2.1
          refine wp_store_row _ _ _ rfl (w2.heap.size) _ rfl rfl _ _ hcs60 Try.infoF hsz60 (by simp [Value.oneCell']) ?_
          refine hK.out _ _ ?_ (fun hh60 => ?_)
          · exact ⟨(below_setRow hh58'.1 (by omega) _), (hh58'.2.1.same _ rfl), (own_setRowF hh58'.2.2.1 (fun e => by have := HL1.out _ e; omega) _), (own_setRowF hh58'.2.2.2.1 (fun e => by have := HL2.out _ e; omega) _), (hh58'.2.2.2.2.other (by omega) _)⟩
          clear hK K
          have hX : (V58.setRow (w2.heap.size) #[.int .u8 x.k, .int .u8 x.f, .int .u8 x.t, .int .u64 x.e, .int .u64 x.q, .bool x.i.g, .int .u8 x.i.o, .int .u64 x.i.q, .int .u64 x.i.t, .string x.i.r, .slice A1 n1 c1, .int .u8 x.i.s, .int .u8 x.i.p, .int .i64 x.i.v, .int .u8 x.i.w, .int .u8 x.i.ga, .int .u64 x.i.gf, .int .u64 x.i.gt, .int .u64 x.c, .int .u64 x.b, .int .u64 x.l]).heap[w2.heap.size]? = some (.cells #[.int .u8 x.k, .int .u8 x.f, .int .u8 x.t, .int .u64 x.e, .int .u64 x.q, .bool x.i.g, .int .u8 x.i.o, .int .u64 x.i.q, .int .u64 x.i.t, .string x.i.r, .slice A1 n1 c1, .int .u8 x.i.s, .int .u8 x.i.p, .int .i64 x.i.v, .int .u8 x.i.w, .int .u8 x.i.ga, .int .u64 x.i.gf, .int .u64 x.i.gt, .int .u64 x.c, .int .u64 x.b, .int .u64 x.l] 44 (0, 0)) := setRow_heap _ _ _ _ _ _ hcs60
          generalize hV60 : V58.setRow (w2.heap.size) #[.int .u8 x.k, .int .u8 x.f, .int .u8 x.t, .int .u64 x.e, .int .u64 x.q, .bool x.i.g, .int .u8 x.i.o, .int .u64 x.i.q, .int .u64 x.i.t, .string x.i.r, .slice A1 n1 c1, .int .u8 x.i.s, .int .u8 x.i.p, .int .i64 x.i.v, .int .u8 x.i.w, .int .u8 x.i.ga, .int .u64 x.i.gf, .int .u64 x.i.gt, .int .u64 x.c, .int .u64 x.b, .int .u64 x.l] = V60 at *
          clear hV60 hcs60 hsz60 
          refine heldOne (i := 7) rfl (by kernel_rfl) (fun K hK => ?_)
          rw [if_pos (by rfl)]
          obtain ⟨cs62, hcs62, hsz62⟩ := hh60.2.2.2.2
          refine wp_store_row _ _ _ rfl (V56.heap.size) _ rfl rfl _ _ hcs62 Try.infoF hsz62 (by simp [Value.oneCell']) ?_
          refine hK.out _ _ ?_ (fun hh62 => ?_)
          · exact ⟨(below_setRow hh60.1 (by omega) _), (hh60.2.1.other (by omega) _), (own_setRowF hh60.2.2.1 (fun e => by have := HL1.out _ e; omega) _), (own_setRowF hh60.2.2.2.1 (fun e => by have := HL2.out _ e; omega) _), (hh60.2.2.2.2.same _ rfl)⟩
          clear hK K
          have hY : (V60.setRow (V56.heap.size) #[.int .u8 y.k, .int .u8 y.f, .int .u8 y.t, .int .u64 y.e, .int .u64 y.q, .bool y.i.g, .int .u8 y.i.o, .int .u64 y.i.q, .int .u64 y.i.t, .string y.i.r, .slice A2 n2 c2, .int .u8 y.i.s, .int .u8 y.i.p, .int .i64 y.i.v, .int .u8 y.i.w, .int .u8 y.i.ga, .int .u64 y.i.gf, .int .u64 y.i.gt, .int .u64 y.c, .int .u64 y.b, .int .u64 y.l]).heap[V56.heap.size]? = some (.cells #[.int .u8 y.k, .int .u8 y.f, .int .u8 y.t, .int .u64 y.e, .int .u64 y.q, .bool y.i.g, .int .u8 y.i.o, .int .u64 y.i.q, .int .u64 y.i.t, .string y.i.r, .slice A2 n2 c2, .int .u8 y.i.s, .int .u8 y.i.p, .int .i64 y.i.v, .int .u8 y.i.w, .int .u8 y.i.ga, .int .u64 y.i.gf, .int .u64 y.i.gt, .int .u64 y.c, .int .u64 y.b, .int .u64 y.l] 44 (0, 0)) := setRow_heap _ _ _ _ _ _ hcs62
          have hX' : (V60.setRow (V56.heap.size) #[.int .u8 y.k, .int .u8 y.f, .int .u8 y.t, .int .u64 y.e, .int .u64 y.q, .bool y.i.g, .int .u8 y.i.o, .int .u64 y.i.q, .int .u64 y.i.t, .string y.i.r, .slice A2 n2 c2, .int .u8 y.i.s, .int .u8 y.i.p, .int .i64 y.i.v, .int .u8 y.i.w, .int .u8 y.i.ga, .int .u64 y.i.gf, .int .u64 y.i.gt, .int .u64 y.c, .int .u64 y.b, .int .u64 y.l]).heap[w2.heap.size]? = some (.cells #[.int .u8 x.k, .int .u8 x.f, .int .u8 x.t, .int .u64 x.e, .int .u64 x.q, .bool x.i.g, .int .u8 x.i.o, .int .u64 x.i.q, .int .u64 x.i.t, .string x.i.r, .slice A1 n1 c1, .int .u8 x.i.s, .int .u8 x.i.p, .int .i64 x.i.v, .int .u8 x.i.w, .int .u8 x.i.ga, .int .u64 x.i.gf, .int .u64 x.i.gt, .int .u64 x.c, .int .u64 x.b, .int .u64 x.l] 44 (0, 0)) := (setRow_other _ _ _ _ (by omega)).trans hX
          generalize hV62 : V60.setRow (V56.heap.size) #[.int .u8 y.k, .int .u8 y.f, .int .u8 y.t, .int .u64 y.e, .int .u64 y.q, .bool y.i.g, .int .u8 y.i.o, .int .u64 y.i.q, .int .u64 y.i.t, .string y.i.r, .slice A2 n2 c2, .int .u8 y.i.s, .int .u8 y.i.p, .int .i64 y.i.v, .int .u8 y.i.w, .int .u8 y.i.ga, .int .u64 y.i.gf, .int .u64 y.i.gt, .int .u64 y.c, .int .u64 y.b, .int .u64 y.l] = V62 at *
          clear hV62 hcs62 hsz62 hX
          refine wpAnyH_done (by kernel_rfl) ?_ _
          refine NoPanic.normal ?_
          go_wp2_with fail
          go_meet
          exact ⟨w2.heap.size, V56.heap.size, A1, n1, c1, A2, n2, c2, rfl, rfl, ⟨Hb1.out.trans (hh62.1.mono hw1), hX', hY, ownB_mono hh62.2.2.1 (by omega), ownB_mono hh62.2.2.2.1 (by omega), HN1.out, HN2.out, by omega, by omega, by omega, fun e => by have := HL1.out _ e; omega, fun e => by have := HL1.out _ e; omega, fun e => by have := HL2.out _ e; omega, fun e => by have := HL2.out _ e; omega⟩⟩
        case' g55_5 =>
          have hb63 : Below V54.heap.size V54 (V54.alloc (.cells #[.int .u8 0, .int .u8 0, .int .u8 0, .int .u64 0, .int .u64 0, .bool false, .int .u8 0, .int .u64 0, .int .u64 0, .string ⟨#[]⟩, .slice none 0 0, .int .u8 0, .int .u8 0, .int .i64 0, .int .u8 0, .int .u8 0, .int .u64 0, .int .u64 0, .int .u64 0, .int .u64 0, .int .u64 0] 44)) := (Below.refl _ _).alloc (Nat.le_refl _) _
          go_simp
          refine hK.out _ _ ?_ (fun hh63 => ?_)
          · exact ⟨(hh54'.1.trans (hb63.mono (hh54'.1.size))), (hh54'.2.1.below hb63), (own_below hh54'.2.2 hb63)⟩
          clear hK K
          try simp only [heldPut, List.set]
          have hc63 : CellsF (V54.alloc (.cells #[.int .u8 0, .int .u8 0, .int .u8 0, .int .u64 0, .int .u64 0, .bool false, .int .u8 0, .int .u64 0, .int .u64 0, .string ⟨#[]⟩, .slice none 0 0, .int .u8 0, .int .u8 0, .int .i64 0, .int .u8 0, .int .u8 0, .int .u64 0, .int .u64 0, .int .u64 0, .int .u64 0, .int .u64 0] 44)) V54.heap.size 44 := CellsF.new _ _ _ rfl
          have hz63 : (V54.alloc (.cells #[.int .u8 0, .int .u8 0, .int .u8 0, .int .u64 0, .int .u64 0, .bool false, .int .u8 0, .int .u64 0, .int .u64 0, .string ⟨#[]⟩, .slice none 0 0, .int .u8 0, .int .u8 0, .int .i64 0, .int .u8 0, .int .u8 0, .int .u64 0, .int .u64 0, .int .u64 0, .int .u64 0, .int .u64 0] 44)).heap.size = V54.heap.size + 1 := by simp
          generalize hV63 : V54.alloc (.cells #[.int .u8 0, .int .u8 0, .int .u8 0, .int .u64 0, .int .u64 0, .bool false, .int .u8 0, .int .u64 0, .int .u64 0, .string ⟨#[]⟩, .slice none 0 0, .int .u8 0, .int .u8 0, .int .i64 0, .int .u8 0, .int .u8 0, .int .u64 0, .int .u64 0, .int .u64 0, .int .u64 0, .int .u64 0] 44) = V63 at *
          clear hV63 hb63
          refine heldMore (S2 := (fun V : World => Below w1.heap.size w1 V ∧ CellsF V w2.heap.size 44 ∧ V.ownsRow V52.heap.size 101 2 (.slice A1 n1 c1) n1 (cellsP x.i.l) ∧ CellsF V V54.heap.size 44)) (fun _ h => ⟨h.1, h.2.1, h.2.2.1⟩) ?_
          have hh63' : (fun V : World => Below w1.heap.size w1 V ∧ CellsF V w2.heap.size 44 ∧ V.ownsRow V52.heap.size 101 2 (.slice A1 n1 c1) n1 (cellsP x.i.l) ∧ CellsF V V54.heap.size 44) V63 := ⟨hh63.1, hh63.2.1, hh63.2.2, hc63⟩
          clear hh63 hc63
          replace hz63 : V54.heap.size + 1 ≤ V63.heap.size := by omega
          refine heldOne (i := 3) rfl (by kernel_rfl) (fun K hK => ?_)
          go_simp
          refine (smallF_as HX2.out HS2.out _).mono ?_
          rintro e V65 ⟨A2, n2, c2, rfl, hn2, ho2, hb65⟩
          have HN2 := Lib.hid hn2
          clear hn2
          go_wp2_with fail
          refine hK.out _ _ ?_ (fun hh65 => ?_)
          · exact ⟨(hh63'.1.trans (hb65.mono (hh63'.1.size))), (hh63'.2.1.below hb65), (own_below hh63'.2.2.1 hb65), (hh63'.2.2.2.below hb65)⟩
          clear hK K
          try simp only [heldPut, List.set]
          have hz65 := hb65.size
          have HL2 : Hid (∀ k, (Value.slice A2 n2 c2).ownBlock = some k → V63.heap.size ≤ k ∧ k < V65.heap.size) := fun k e => ho2.lt k e
          refine heldMore (S2 := (fun V : World => Below w1.heap.size w1 V ∧ CellsF V w2.heap.size 44 ∧ V.ownsRow V52.heap.size 101 2 (.slice A1 n1 c1) n1 (cellsP x.i.l) ∧ CellsF V V54.heap.size 44 ∧ V.ownsRow V63.heap.size 101 2 (.slice A2 n2 c2) n2 (cellsP y.i.l))) (fun _ h => ⟨h.1, h.2.1, h.2.2.1, h.2.2.2.1⟩) ?_
          have hh65' : (fun V : World => Below w1.heap.size w1 V ∧ CellsF V w2.heap.size 44 ∧ V.ownsRow V52.heap.size 101 2 (.slice A1 n1 c1) n1 (cellsP x.i.l) ∧ CellsF V V54.heap.size 44 ∧ V.ownsRow V63.heap.size 101 2 (.slice A2 n2 c2) n2 (cellsP y.i.l)) V65 := ⟨hh65.1, hh65.2.1, hh65.2.2.1, hh65.2.2.2, ho2⟩
          clear hh65 ho2 hb65
          refine heldOne (i := 6) rfl (by kernel_rfl) (fun K hK => ?_)
          rw [if_pos (by rfl)]
          obtain ⟨cs67, hcs67, hsz67⟩ := hh65'.2.1
          refine wp_store_row _ _ _ rfl (w2.heap.size) _ rfl rfl _ _ hcs67 Try.infoF hsz67 (by simp [Value.oneCell']) ?_
          refine hK.out _ _ ?_ (fun hh67 => ?_)
          · exact ⟨(below_setRow hh65'.1 (by omega) _), (hh65'.2.1.same _ rfl), (own_setRowF hh65'.2.2.1 (fun e => by have := HL1.out _ e; omega) _), (hh65'.2.2.2.1.other (by omega) _), (own_setRowF hh65'.2.2.2.2 (fun e => by have := HL2.out _ e; omega) _)⟩
          clear hK K
          have hX : (V65.setRow (w2.heap.size) #[.int .u8 x.k, .int .u8 x.f, .int .u8 x.t, .int .u64 x.e, .int .u64 x.q, .bool x.i.g, .int .u8 x.i.o, .int .u64 x.i.q, .int .u64 x.i.t, .string x.i.r, .slice A1 n1 c1, .int .u8 x.i.s, .int .u8 x.i.p, .int .i64 x.i.v, .int .u8 x.i.w, .int .u8 x.i.ga, .int .u64 x.i.gf, .int .u64 x.i.gt, .int .u64 x.c, .int .u64 x.b, .int .u64 x.l]).heap[w2.heap.size]? = some (.cells #[.int .u8 x.k, .int .u8 x.f, .int .u8 x.t, .int .u64 x.e, .int .u64 x.q, .bool x.i.g, .int .u8 x.i.o, .int .u64 x.i.q, .int .u64 x.i.t, .string x.i.r, .slice A1 n1 c1, .int .u8 x.i.s, .int .u8 x.i.p, .int .i64 x.i.v, .int .u8 x.i.w, .int .u8 x.i.ga, .int .u64 x.i.gf, .int .u64 x.i.gt, .int .u64 x.c, .int .u64 x.b, .int .u64 x.l] 44 (0, 0)) := setRow_heap _ _ _ _ _ _ hcs67
          generalize hV67 : V65.setRow (w2.heap.size) #[.int .u8 x.k, .int .u8 x.f, .int .u8 x.t, .int .u64 x.e, .int .u64 x.q, .bool x.i.g, .int .u8 x.i.o, .int .u64 x.i.q, .int .u64 x.i.t, .string x.i.r, .slice A1 n1 c1, .int .u8 x.i.s, .int .u8 x.i.p, .int .i64 x.i.v, .int .u8 x.i.w, .int .u8 x.i.ga, .int .u64 x.i.gf, .int .u64 x.i.gt, .int .u64 x.c, .int .u64 x.b, .int .u64 x.l] = V67 at *
          clear hV67 hcs67 hsz67 
          refine heldOne (i := 7) rfl (by kernel_rfl) (fun K hK => ?_)
          rw [if_pos (by rfl)]
          obtain ⟨cs69, hcs69, hsz69⟩ := hh67.2.2.2.1
          refine wp_store_row _ _ _ rfl (V54.heap.size) _ rfl rfl _ _ hcs69 Try.infoF hsz69 (by simp [Value.oneCell']) ?_
          refine hK.out _ _ ?_ (fun hh69 => ?_)
          · exact ⟨(below_setRow hh67.1 (by omega) _), (hh67.2.1.other (by omega) _), (own_setRowF hh67.2.2.1 (fun e => by have := HL1.out _ e; omega) _), (hh67.2.2.2.1.same _ rfl), (own_setRowF hh67.2.2.2.2 (fun e => by have := HL2.out _ e; omega) _)⟩
          clear hK K
          have hY : (V67.setRow (V54.heap.size) #[.int .u8 y.k, .int .u8 y.f, .int .u8 y.t, .int .u64 y.e, .int .u64 y.q, .bool y.i.g, .int .u8 y.i.o, .int .u64 y.i.q, .int .u64 y.i.t, .string y.i.r, .slice A2 n2 c2, .int .u8 y.i.s, .int .u8 y.i.p, .int .i64 y.i.v, .int .u8 y.i.w, .int .u8 y.i.ga, .int .u64 y.i.gf, .int .u64 y.i.gt, .int .u64 y.c, .int .u64 y.b, .int .u64 y.l]).heap[V54.heap.size]? = some (.cells #[.int .u8 y.k, .int .u8 y.f, .int .u8 y.t, .int .u64 y.e, .int .u64 y.q, .bool y.i.g, .int .u8 y.i.o, .int .u64 y.i.q, .int .u64 y.i.t, .string y.i.r, .slice A2 n2 c2, .int .u8 y.i.s, .int .u8 y.i.p, .int .i64 y.i.v, .int .u8 y.i.w, .int .u8 y.i.ga, .int .u64 y.i.gf, .int .u64 y.i.gt, .int .u64 y.c, .int .u64 y.b, .int .u64 y.l] 44 (0, 0)) := setRow_heap _ _ _ _ _ _ hcs69
          have hX' : (V67.setRow (V54.heap.size) #[.int .u8 y.k, .int .u8 y.f, .int .u8 y.t, .int .u64 y.e, .int .u64 y.q, .bool y.i.g, .int .u8 y.i.o, .int .u64 y.i.q, .int .u64 y.i.t, .string y.i.r, .slice A2 n2 c2, .int .u8 y.i.s, .int .u8 y.i.p, .int .i64 y.i.v, .int .u8 y.i.w, .int .u8 y.i.ga, .int .u64 y.i.gf, .int .u64 y.i.gt, .int .u64 y.c, .int .u64 y.b, .int .u64 y.l]).heap[w2.heap.size]? = some (.cells #[.int .u8 x.k, .int .u8 x.f, .int .u8 x.t, .int .u64 x.e, .int .u64 x.q, .bool x.i.g, .int .u8 x.i.o, .int .u64 x.i.q, .int .u64 x.i.t, .string x.i.r, .slice A1 n1 c1, .int .u8 x.i.s, .int .u8 x.i.p, .int .i64 x.i.v, .int .u8 x.i.w, .int .u8 x.i.ga, .int .u64 x.i.gf, .int .u64 x.i.gt, .int .u64 x.c, .int .u64 x.b, .int .u64 x.l] 44 (0, 0)) := (setRow_other _ _ _ _ (by omega)).trans hX
          generalize hV69 : V67.setRow (V54.heap.size) #[.int .u8 y.k, .int .u8 y.f, .int .u8 y.t, .int .u64 y.e, .int .u64 y.q, .bool y.i.g, .int .u8 y.i.o, .int .u64 y.i.q, .int .u64 y.i.t, .string y.i.r, .slice A2 n2 c2, .int .u8 y.i.s, .int .u8 y.i.p, .int .i64 y.i.v, .int .u8 y.i.w, .int .u8 y.i.ga, .int .u64 y.i.gf, .int .u64 y.i.gt, .int .u64 y.c, .int .u64 y.b, .int .u64 y.l] = V69 at *
          clear hV69 hcs69 hsz69 hX
          refine wpAnyH_done (by kernel_rfl) ?_ _
          refine NoPanic.normal ?_
          go_wp2_with fail
          go_meet
          exact ⟨w2.heap.size, V54.heap.size, A1, n1, c1, A2, n2, c2, rfl, rfl, ⟨Hb1.out.trans (hh69.1.mono hw1), hX', hY, ownB_mono hh69.2.2.1 (by omega), ownB_mono hh69.2.2.2.2 (by omega), HN1.out, HN2.out, by omega, by omega, by omega, fun e => by have := HL1.out _ e; omega, fun e => by have := HL1.out _ e; omega, fun e => by have := HL2.out _ e; omega, fun e => by have := HL2.out _ e; omega⟩⟩
      case g53_5 =>
        have hb70 : Below V52.heap.size V52 (V52.alloc (.cells #[.int .u8 0, .int .u8 0, .int .u8 0, .int .u64 0, .int .u64 0, .bool false, .int .u8 0, .int .u64 0, .int .u64 0, .string ⟨#[]⟩, .slice none 0 0, .int .u8 0, .int .u8 0, .int .i64 0, .int .u8 0, .int .u8 0, .int .u64 0, .int .u64 0, .int .u64 0, .int .u64 0, .int .u64 0] 44)) := (Below.refl _ _).alloc (Nat.le_refl _) _
        go_simp
        refine hK.out _ _ ?_ (fun hh70 => ?_)
        · exact ⟨(hh52'.1.trans (hb70.mono (hh52'.1.size))), (hh52'.2.below hb70)⟩
        clear hK K
        try simp only [heldPut, List.set]
        have hc70 : CellsF (V52.alloc (.cells #[.int .u8 0, .int .u8 0, .int .u8 0, .int .u64 0, .int .u64 0, .bool false, .int .u8 0, .int .u64 0, .int .u64 0, .string ⟨#[]⟩, .slice none 0 0, .int .u8 0, .int .u8 0, .int .i64 0, .int .u8 0, .int .u8 0, .int .u64 0, .int .u64 0, .int .u64 0, .int .u64 0, .int .u64 0] 44)) V52.heap.size 44 := CellsF.new _ _ _ rfl
        have hz70 : (V52.alloc (.cells #[.int .u8 0, .int .u8 0, .int .u8 0, .int .u64 0, .int .u64 0, .bool false, .int .u8 0, .int .u64 0, .int .u64 0, .string ⟨#[]⟩, .slice none 0 0, .int .u8 0, .int .u8 0, .int .i64 0, .int .u8 0, .int .u8 0, .int .u64 0, .int .u64 0, .int .u64 0, .int .u64 0, .int .u64 0] 44)).heap.size = V52.heap.size + 1 := by simp
        generalize hV70 : V52.alloc (.cells #[.int .u8 0, .int .u8 0, .int .u8 0, .int .u64 0, .int .u64 0, .bool false, .int .u8 0, .int .u64 0, .int .u64 0, .string ⟨#[]⟩, .slice none 0 0, .int .u8 0, .int .u8 0, .int .i64 0, .int .u8 0, .int .u8 0, .int .u64 0, .int .u64 0, .int .u64 0, .int .u64 0, .int .u64 0] 44) = V70 at *
        clear hV70 hb70
        refine heldMore (S2 := (fun V : World => Below w1.heap.size w1 V ∧ CellsF V w2.heap.size 44 ∧ CellsF V V52.heap.size 44)) (fun _ h => ⟨h.1, h.2.1⟩) ?_
        have hh70' : (fun V : World => Below w1.heap.size w1 V ∧ CellsF V w2.heap.size 44 ∧ CellsF V V52.heap.size 44) V70 := ⟨hh70.1, hh70.2, hc70⟩
        clear hh70 hc70
        replace hz70 : V52.heap.size + 1 ≤ V70.heap.size := by omega
        refine heldOne (i := 1) rfl (by kernel_rfl) (fun K hK => ?_)
        go_simp
        refine (smallF_as HX1.out HS1.out _).mono ?_
        rintro e V72 ⟨A1, n1, c1, rfl, hn1, ho1, hb72⟩
        have HN1 := Lib.hid hn1
        clear hn1
        go_wp2_with fail
        refine hK.out _ _ ?_ (fun hh72 => ?_)
        · exact ⟨(hh70'.1.trans (hb72.mono (hh70'.1.size))), (hh70'.2.1.below hb72), (hh70'.2.2.below hb72)⟩
        clear hK K
        try simp only [heldPut, List.set]
        have hz72 := hb72.size
        have HL1 : Hid (∀ k, (Value.slice A1 n1 c1).ownBlock = some k → V70.heap.size ≤ k ∧ k < V72.heap.size) := fun k e => ho1.lt k e
        refine heldMore (S2 := (fun V : World => Below w1.heap.size w1 V ∧ CellsF V w2.heap.size 44 ∧ CellsF V V52.heap.size 44 ∧ V.ownsRow V70.heap.size 101 2 (.slice A1 n1 c1) n1 (cellsP x.i.l))) (fun _ h => ⟨h.1, h.2.1, h.2.2.1⟩) ?_
        have hh72' : (fun V : World => Below w1.heap.size w1 V ∧ CellsF V w2.heap.size 44 ∧ CellsF V V52.heap.size 44 ∧ V.ownsRow V70.heap.size 101 2 (.slice A1 n1 c1) n1 (cellsP x.i.l)) V72 := ⟨hh72.1, hh72.2.1, hh72.2.2, ho1⟩
        clear hh72 ho1 hb72
        refine heldOne (i := 3) rfl (by kernel_rfl) (fun K hK => ?_)
        go_simp
        refine (smallF_as HX2.out HS2.out _).mono ?_
        rintro e V74 ⟨A2, n2, c2, rfl, hn2, ho2, hb74⟩
        have HN2 := Lib.hid hn2
        clear hn2
        go_wp2_with fail
        refine hK.out _ _ ?_ (fun hh74 => ?_)
        · exact ⟨(hh72'.1.trans (hb74.mono (hh72'.1.size))), (hh72'.2.1.below hb74), (hh72'.2.2.1.below hb74), (own_below hh72'.2.2.2 hb74)⟩
        clear hK K
        try simp only [heldPut, List.set]
        have hz74 := hb74.size
        have HL2 : Hid (∀ k, (Value.slice A2 n2 c2).ownBlock = some k → V72.heap.size ≤ k ∧ k < V74.heap.size) := fun k e => ho2.lt k e
        refine heldMore (S2 := (fun V : World => Below w1.heap.size w1 V ∧ CellsF V w2.heap.size 44 ∧ CellsF V V52.heap.size 44 ∧ V.ownsRow V70.heap.size 101 2 (.slice A1 n1 c1) n1 (cellsP x.i.l) ∧ V.ownsRow V72.heap.size 101 2 (.slice A2 n2 c2) n2 (cellsP y.i.l))) (fun _ h => ⟨h.1, h.2.1, h.2.2.1, h.2.2.2.1⟩) ?_
        have hh74' : (fun V : World => Below w1.heap.size w1 V ∧ CellsF V w2.heap.size 44 ∧ CellsF V V52.heap.size 44 ∧ V.ownsRow V70.heap.size 101 2 (.slice A1 n1 c1) n1 (cellsP x.i.l) ∧ V.ownsRow V72.heap.size 101 2 (.slice A2 n2 c2) n2 (cellsP y.i.l)) V74 := ⟨hh74.1, hh74.2.1, hh74.2.2.1, hh74.2.2.2, ho2⟩
        clear hh74 ho2 hb74
        refine heldOne (i := 6) rfl (by kernel_rfl) (fun K hK => ?_)
        rw [if_pos (by rfl)]
        obtain ⟨cs76, hcs76, hsz76⟩ := hh74'.2.1
        refine wp_store_row _ _ _ rfl (w2.heap.size) _ rfl rfl _ _ hcs76 Try.infoF hsz76 (by simp [Value.oneCell']) ?_
        refine hK.out _ _ ?_ (fun hh76 => ?_)
        · exact ⟨(below_setRow hh74'.1 (by omega) _), (hh74'.2.1.same _ rfl), (hh74'.2.2.1.other (by omega) _), (own_setRowF hh74'.2.2.2.1 (fun e => by have := HL1.out _ e; omega) _), (own_setRowF hh74'.2.2.2.2 (fun e => by have := HL2.out _ e; omega) _)⟩
        clear hK K
        have hX : (V74.setRow (w2.heap.size) #[.int .u8 x.k, .int .u8 x.f, .int .u8 x.t, .int .u64 x.e, .int .u64 x.q, .bool x.i.g, .int .u8 x.i.o, .int .u64 x.i.q, .int .u64 x.i.t, .string x.i.r, .slice A1 n1 c1, .int .u8 x.i.s, .int .u8 x.i.p, .int .i64 x.i.v, .int .u8 x.i.w, .int .u8 x.i.ga, .int .u64 x.i.gf, .int .u64 x.i.gt, .int .u64 x.c, .int .u64 x.b, .int .u64 x.l]).heap[w2.heap.size]? = some (.cells #[.int .u8 x.k, .int .u8 x.f, .int .u8 x.t, .int .u64 x.e, .int .u64 x.q, .bool x.i.g, .int .u8 x.i.o, .int .u64 x.i.q, .int .u64 x.i.t, .string x.i.r, .slice A1 n1 c1, .int .u8 x.i.s, .int .u8 x.i.p, .int .i64 x.i.v, .int .u8 x.i.w, .int .u8 x.i.ga, .int .u64 x.i.gf, .int .u64 x.i.gt, .int .u64 x.c, .int .u64 x.b, .int .u64 x.l] 44 (0, 0)) := setRow_heap _ _ _ _ _ _ hcs76
        generalize hV76 : V74.setRow (w2.heap.size) #[.int .u8 x.k, .int .u8 x.f, .int .u8 x.t, .int .u64 x.e, .int .u64 x.q, .bool x.i.g, .int .u8 x.i.o, .int .u64 x.i.q, .int .u64 x.i.t, .string x.i.r, .slice A1 n1 c1, .int .u8 x.i.s, .int .u8 x.i.p, .int .i64 x.i.v, .int .u8 x.i.w, .int .u8 x.i.ga, .int .u64 x.i.gf, .int .u64 x.i.gt, .int .u64 x.c, .int .u64 x.b, .int .u64 x.l] = V76 at *
        clear hV76 hcs76 hsz76 
        refine heldOne (i := 7) rfl (by kernel_rfl) (fun K hK => ?_)
        rw [if_pos (by rfl)]
        obtain ⟨cs78, hcs78, hsz78⟩ := hh76.2.2.1
        refine wp_store_row _ _ _ rfl (V52.heap.size) _ rfl rfl _ _ hcs78 Try.infoF hsz78 (by simp [Value.oneCell']) ?_
        refine hK.out _ _ ?_ (fun hh78 => ?_)
        · exact ⟨(below_setRow hh76.1 (by omega) _), (hh76.2.1.other (by omega) _), (hh76.2.2.1.same _ rfl), (own_setRowF hh76.2.2.2.1 (fun e => by have := HL1.out _ e; omega) _), (own_setRowF hh76.2.2.2.2 (fun e => by have := HL2.out _ e; omega) _)⟩
        clear hK K
        have hY : (V76.setRow (V52.heap.size) #[.int .u8 y.k, .int .u8 y.f, .int .u8 y.t, .int .u64 y.e, .int .u64 y.q, .bool y.i.g, .int .u8 y.i.o, .int .u64 y.i.q, .int .u64 y.i.t, .string y.i.r, .slice A2 n2 c2, .int .u8 y.i.s, .int .u8 y.i.p, .int .i64 y.i.v, .int .u8 y.i.w, .int .u8 y.i.ga, .int .u64 y.i.gf, .int .u64 y.i.gt, .int .u64 y.c, .int .u64 y.b, .int .u64 y.l]).heap[V52.heap.size]? = some (.cells #[.int .u8 y.k, .int .u8 y.f, .int .u8 y.t, .int .u64 y.e, .int .u64 y.q, .bool y.i.g, .int .u8 y.i.o, .int .u64 y.i.q, .int .u64 y.i.t, .string y.i.r, .slice A2 n2 c2, .int .u8 y.i.s, .int .u8 y.i.p, .int .i64 y.i.v, .int .u8 y.i.w, .int .u8 y.i.ga, .int .u64 y.i.gf, .int .u64 y.i.gt, .int .u64 y.c, .int .u64 y.b, .int .u64 y.l] 44 (0, 0)) := setRow_heap _ _ _ _ _ _ hcs78
        have hX' : (V76.setRow (V52.heap.size) #[.int .u8 y.k, .int .u8 y.f, .int .u8 y.t, .int .u64 y.e, .int .u64 y.q, .bool y.i.g, .int .u8 y.i.o, .int .u64 y.i.q, .int .u64 y.i.t, .string y.i.r, .slice A2 n2 c2, .int .u8 y.i.s, .int .u8 y.i.p, .int .i64 y.i.v, .int .u8 y.i.w, .int .u8 y.i.ga, .int .u64 y.i.gf, .int .u64 y.i.gt, .int .u64 y.c, .int .u64 y.b, .int .u64 y.l]).heap[w2.heap.size]? = some (.cells #[.int .u8 x.k, .int .u8 x.f, .int .u8 x.t, .int .u64 x.e, .int .u64 x.q, .bool x.i.g, .int .u8 x.i.o, .int .u64 x.i.q, .int .u64 x.i.t, .string x.i.r, .slice A1 n1 c1, .int .u8 x.i.s, .int .u8 x.i.p, .int .i64 x.i.v, .int .u8 x.i.w, .int .u8 x.i.ga, .int .u64 x.i.gf, .int .u64 x.i.gt, .int .u64 x.c, .int .u64 x.b, .int .u64 x.l] 44 (0, 0)) := (setRow_other _ _ _ _ (by omega)).trans hX
        generalize hV78 : V76.setRow (V52.heap.size) #[.int .u8 y.k, .int .u8 y.f, .int .u8 y.t, .int .u64 y.e, .int .u64 y.q, .bool y.i.g, .int .u8 y.i.o, .int .u64 y.i.q, .int .u64 y.i.t, .string y.i.r, .slice A2 n2 c2, .int .u8 y.i.s, .int .u8 y.i.p, .int .i64 y.i.v, .int .u8 y.i.w, .int .u8 y.i.ga, .int .u64 y.i.gf, .int .u64 y.i.gt, .int .u64 y.c, .int .u64 y.b, .int .u64 y.l] = V78 at *
        clear hV78 hcs78 hsz78 hX
        refine wpAnyH_done (by kernel_rfl) ?_ _
        refine NoPanic.normal ?_
        go_wp2_with fail
        go_meet
        exact ⟨w2.heap.size, V52.heap.size, A1, n1, c1, A2, n2, c2, rfl, rfl, ⟨Hb1.out.trans (hh78.1.mono hw1), hX', hY, ownB_mono hh78.2.2.2.1 (by omega), ownB_mono hh78.2.2.2.2 (by omega), HN1.out, HN2.out, by omega, by omega, by omega, fun e => by have := HL1.out _ e; omega, fun e => by have := HL1.out _ e; omega, fun e => by have := HL2.out _ e; omega, fun e => by have := HL2.out _ e; omega⟩⟩
    case g1_5 =>
      have hb79 : Below w2.heap.size w2 (w2.alloc (.cells #[.int .u8 0, .int .u8 0, .int .u8 0, .int .u64 0, .int .u64 0, .bool false, .int .u8 0, .int .u64 0, .int .u64 0, .string ⟨#[]⟩, .slice none 0 0, .int .u8 0, .int .u8 0, .int .i64 0, .int .u8 0, .int .u8 0, .int .u64 0, .int .u64 0, .int .u64 0, .int .u64 0, .int .u64 0] 44)) := (Below.refl _ _).alloc (Nat.le_refl _) _
      go_simp
      refine hK.out _ _ ?_ (fun hh79 => ?_)
      · exact (hHeld.trans (hb79.mono (hHeld.size)))
      clear hK K
      try simp only [heldPut, List.set]
      have hc79 : CellsF (w2.alloc (.cells #[.int .u8 0, .int .u8 0, .int .u8 0, .int .u64 0, .int .u64 0, .bool false, .int .u8 0, .int .u64 0, .int .u64 0, .string ⟨#[]⟩, .slice none 0 0, .int .u8 0, .int .u8 0, .int .i64 0, .int .u8 0, .int .u8 0, .int .u64 0, .int .u64 0, .int .u64 0, .int .u64 0, .int .u64 0] 44)) w2.heap.size 44 := CellsF.new _ _ _ rfl
      have hz79 : (w2.alloc (.cells #[.int .u8 0, .int .u8 0, .int .u8 0, .int .u64 0, .int .u64 0, .bool false, .int .u8 0, .int .u64 0, .int .u64 0, .string ⟨#[]⟩, .slice none 0 0, .int .u8 0, .int .u8 0, .int .i64 0, .int .u8 0, .int .u8 0, .int .u64 0, .int .u64 0, .int .u64 0, .int .u64 0, .int .u64 0] 44)).heap.size = w2.heap.size + 1 := by simp
      generalize hV79 : w2.alloc (.cells #[.int .u8 0, .int .u8 0, .int .u8 0, .int .u64 0, .int .u64 0, .bool false, .int .u8 0, .int .u64 0, .int .u64 0, .string ⟨#[]⟩, .slice none 0 0, .int .u8 0, .int .u8 0, .int .i64 0, .int .u8 0, .int .u8 0, .int .u64 0, .int .u64 0, .int .u64 0, .int .u64 0, .int .u64 0] 44) = V79 at *
      clear hV79 hb79
      refine heldMore (S2 := (fun V : World => Below w1.heap.size w1 V ∧ CellsF V w2.heap.size 44)) (fun _ h => h.1) ?_
      have hh79' : (fun V : World => Below w1.heap.size w1 V ∧ CellsF V w2.heap.size 44) V79 := ⟨hh79, hc79⟩
      clear hh79 hc79
      replace hz79 : w2.heap.size + 1 ≤ V79.heap.size := by omega
      refine heldTwo (i := 1) (j := 4) rfl rfl (by kernel_rfl) (fun K hK => ?g80_1) (fun K hK => ?g80_4)
      case g80_1 =>
        go_simp
        refine (smallF_as HX1.out HS1.out _).mono ?_
        rintro e V81 ⟨A1, n1, c1, rfl, hn1, ho1, hb81⟩
        have HN1 := Lib.hid hn1
        clear hn1
        go_wp2_with fail
        refine hK.out _ _ ?_ (fun hh81 => ?_)
        · exact ⟨(hh79'.1.trans (hb81.mono (hh79'.1.size))), (hh79'.2.below hb81)⟩
        clear hK K
        try simp only [heldPut, List.set]
        have hz81 := hb81.size
        have HL1 : Hid (∀ k, (Value.slice A1 n1 c1).ownBlock = some k → V79.heap.size ≤ k ∧ k < V81.heap.size) := fun k e => ho1.lt k e
        refine heldMore (S2 := (fun V : World => Below w1.heap.size w1 V ∧ CellsF V w2.heap.size 44 ∧ V.ownsRow V79.heap.size 101 2 (.slice A1 n1 c1) n1 (cellsP x.i.l))) (fun _ h => ⟨h.1, h.2.1⟩) ?_
        have hh81' : (fun V : World => Below w1.heap.size w1 V ∧ CellsF V w2.heap.size 44 ∧ V.ownsRow V79.heap.size 101 2 (.slice A1 n1 c1) n1 (cellsP x.i.l)) V81 := ⟨hh81.1, hh81.2, ho1⟩
        clear hh81 ho1 hb81
        refine heldTwo (i := 3) (j := 4) rfl rfl (by kernel_rfl) (fun K hK => ?g82_3) (fun K hK => ?g82_4)
        case' g82_3 =>
          go_simp
          refine (smallF_as HX2.out HS2.out _).mono ?_
          rintro e V83 ⟨A2, n2, c2, rfl, hn2, ho2, hb83⟩
          have HN2 := Lib.hid hn2
          clear hn2
          go_wp2_with fail
          refine hK.out _ _ ?_ (fun hh83 => ?_)
          · exact ⟨(hh81'.1.trans (hb83.mono (hh81'.1.size))), (hh81'.2.1.below hb83), (own_below hh81'.2.2 hb83)⟩
          clear hK K
          try simp only [heldPut, List.set]
          have hz83 := hb83.size
          have HL2 : Hid (∀ k, (Value.slice A2 n2 c2).ownBlock = some k → V81.heap.size ≤ k ∧ k < V83.heap.size) := fun k e => ho2.lt k e
          refine heldMore (S2 := (fun V : World => Below w1.heap.size w1 V ∧ CellsF V w2.heap.size 44 ∧ V.ownsRow V79.heap.size 101 2 (.slice A1 n1 c1) n1 (cellsP x.i.l) ∧ V.ownsRow V81.heap.size 101 2 (.slice A2 n2 c2) n2 (cellsP y.i.l))) (fun _ h => ⟨h.1, h.2.1, h.2.2.1⟩) ?_
          have hh83' : (fun V : World => Below w1.heap.size w1 V ∧ CellsF V w2.heap.size 44 ∧ V.ownsRow V79.heap.size 101 2 (.slice A1 n1 c1) n1 (cellsP x.i.l) ∧ V.ownsRow V81.heap.size 101 2 (.slice A2 n2 c2) n2 (cellsP y.i.l)) V83 := ⟨hh83.1, hh83.2.1, hh83.2.2, ho2⟩
          clear hh83 ho2 hb83
          refine heldOne (i := 4) rfl (by kernel_rfl) (fun K hK => ?_)
          have hb85 : Below V83.heap.size V83 (V83.alloc (.cells #[.int .u8 0, .int .u8 0, .int .u8 0, .int .u64 0, .int .u64 0, .bool false, .int .u8 0, .int .u64 0, .int .u64 0, .string ⟨#[]⟩, .slice none 0 0, .int .u8 0, .int .u8 0, .int .i64 0, .int .u8 0, .int .u8 0, .int .u64 0, .int .u64 0, .int .u64 0, .int .u64 0, .int .u64 0] 44)) := (Below.refl _ _).alloc (Nat.le_refl _) _
          go_simp
          refine hK.out _ _ ?_ (fun hh85 => ?_)
          · exact ⟨(hh83'.1.trans (hb85.mono (hh83'.1.size))), (hh83'.2.1.below hb85), (own_below hh83'.2.2.1 hb85), (own_below hh83'.2.2.2 hb85)⟩
          clear hK K
          try simp only [heldPut, List.set]
          have hc85 : CellsF (V83.alloc (.cells #[.int .u8 0, .int .u8 0, .int .u8 0, .int .u64 0, .int .u64 0, .bool false, .int .u8 0, .int .u64 0, .int .u64 0, .string ⟨#[]⟩, .slice none 0 0, .int .u8 0, .int .u8 0, .int .i64 0, .int .u8 0, .int .u8 0, .int .u64 0, .int .u64 0, .int .u64 0, .int .u64 0, .int .u64 0] 44)) V83.heap.size 44 := CellsF.new _ _ _ rfl
          have hz85 : (V83.alloc (.cells #[.int .u8 0, .int .u8 0, .int .u8 0, .int .u64 0, .int .u64 0, .bool false, .int .u8 0, .int .u64 0, .int .u64 0, .string ⟨#[]⟩, .slice none 0 0, .int .u8 0, .int .u8 0, .int .i64 0, .int .u8 0, .int .u8 0, .int .u64 0, .int .u64 0, .int .u64 0, .int .u64 0, .int .u64 0] 44)).heap.size = V83.heap.size + 1 := by simp
          generalize hV85 : V83.alloc (.cells #[.int .u8 0, .int .u8 0, .int .u8 0, .int .u64 0, .int .u64 0, .bool false, .int .u8 0, .int .u64 0, .int .u64 0, .string ⟨#[]⟩, .slice none 0 0, .int .u8 0, .int .u8 0, .int .i64 0, .int .u8 0, .int .u8 0, .int .u64 0, .int .u64 0, .int .u64 0, .int .u64 0, .int .u64 0] 44) = V85 at *
          clear hV85 hb85
          refine heldMore (S2 := (fun V : World => Below w1.heap.size w1 V ∧ CellsF V w2.heap.size 44 ∧ V.ownsRow V79.heap.size 101 2 (.slice A1 n1 c1) n1 (cellsP x.i.l) ∧ V.ownsRow V81.heap.size 101 2 (.slice A2 n2 c2) n2 (cellsP y.i.l) ∧ CellsF V V83.heap.size 44)) (fun _ h => ⟨h.1, h.2.1, h.2.2.1, h.2.2.2.1⟩) ?_
          have hh85' : (fun V : World => Below w1.heap.size w1 V ∧ CellsF V w2.heap.size 44 ∧ V.ownsRow V79.heap.size 101 2 (.slice A1 n1 c1) n1 (cellsP x.i.l) ∧ V.ownsRow V81.heap.size 101 2 (.slice A2 n2 c2) n2 (cellsP y.i.l) ∧ CellsF V V83.heap.size 44) V85 := ⟨hh85.1, hh85.2.1, hh85.2.2.1, hh85.2.2.2, hc85⟩
          clear hh85 hc85
          replace hz85 : V83.heap.size + 1 ≤ V85.heap.size := by omega
          refine heldOne (i := 6) rfl (by kernel_rfl) (fun K hK => ?_)
          rw [if_pos (by rfl)]
          obtain ⟨cs87, hcs87, hsz87⟩ := hh85'.2.2.2.2
          refine wp_store_row _ _ _ rfl (V83.heap.size) _ rfl rfl _ _ hcs87 Try.infoF hsz87 (by simp [Value.oneCell']) ?_
          refine hK.out _ _ ?_ (fun hh87 => ?_)
          · exact ⟨(below_setRow hh85'.1 (by omega) _), (hh85'.2.1.other (by omega) _), (own_setRowF hh85'.2.2.1 (fun e => by have := HL1.out _ e; omega) _), (own_setRowF hh85'.2.2.2.1 (fun e => by have := HL2.out _ e; omega) _), (hh85'.2.2.2.2.same _ rfl)⟩
          clear hK K
          have hX : (V85.setRow (V83.heap.size) #[.int .u8 x.k, .int .u8 x.f, .int .u8 x.t, .int .u64 x.e, .int .u64 x.q, .bool x.i.g, .int .u8 x.i.o, .int .u64 x.i.q, .int .u64 x.i.t, .string x.i.r, .slice A1 n1 c1, .int .u8 x.i.s, .int .u8 x.i.p, .int .i64 x.i.v, .int .u8 x.i.w, .int .u8 x.i.ga, .int .u64 x.i.gf, .int .u64 x.i.gt, .int .u64 x.c, .int .u64 x.b, .int .u64 x.l]).heap[V83.heap.size]? = some (.cells #[.int .u8 x.k, .int .u8 x.f, .int .u8 x.t, .int .u64 x.e, .int .u64 x.q, .bool x.i.g, .int .u8 x.i.o, .int .u64 x.i.q, .int .u64 x.i.t, .string x.i.r, .slice A1 n1 c1, .int .u8 x.i.s, .int .u8 x.i.p, .int .i64 x.i.v, .int .u8 x.i.w, .int .u8 x.i.ga, .int .u64 x.i.gf, .int .u64 x.i.gt, .int .u64 x.c, .int .u64 x.b, .int .u64 x.l] 44 (0, 0)) := setRow_heap _ _ _ _ _ _ hcs87
          generalize hV87 : V85.setRow (V83.heap.size) #[.int .u8 x.k, .int .u8 x.f, .int .u8 x.t, .int .u64 x.e, .int .u64 x.q, .bool x.i.g, .int .u8 x.i.o, .int .u64 x.i.q, .int .u64 x.i.t, .string x.i.r, .slice A1 n1 c1, .int .u8 x.i.s, .int .u8 x.i.p, .int .i64 x.i.v, .int .u8 x.i.w, .int .u8 x.i.ga, .int .u64 x.i.gf, .int .u64 x.i.gt, .int .u64 x.c, .int .u64 x.b, .int .u64 x.l] = V87 at *
          clear hV87 hcs87 hsz87 
          refine heldOne (i := 7) rfl (by kernel_rfl) (fun K hK => ?_)
          rw [if_pos (by rfl)]
          obtain ⟨cs89, hcs89, hsz89⟩ := hh87.2.1
          refine wp_store_row _ _ _ rfl (w2.heap.size) _ rfl rfl _ _ hcs89 Try.infoF hsz89 (by simp [Value.oneCell']) ?_
          refine hK.out _ _ ?_ (fun hh89 => ?_)
          · exact ⟨(below_setRow hh87.1 (by omega) _), (hh87.2.1.same _ rfl), (own_setRowF hh87.2.2.1 (fun e => by have := HL1.out _ e; omega) _), (own_setRowF hh87.2.2.2.1 (fun e => by have := HL2.out _ e; omega) _), (hh87.2.2.2.2.other (by omega) _)⟩
          clear hK K
          have hY : (V87.setRow (w2.heap.size) #[.int .u8 y.k, .int .u8 y.f, .int .u8 y.t, .int .u64 y.e, .int .u64 y.q, .bool y.i.g, .int .u8 y.i.o, .int .u64 y.i.q, .int .u64 y.i.t, .string y.i.r, .slice A2 n2 c2, .int .u8 y.i.s, .int .u8 y.i.p, .int .i64 y.i.v, .int .u8 y.i.w, .int .u8 y.i.ga, .int .u64 y.i.gf, .int .u64 y.i.gt, .int .u64 y.c, .int .u64 y.b, .int .u64 y.l]).heap[w2.heap.size]? = some (.cells #[.int .u8 y.k, .int .u8 y.f, .int .u8 y.t, .int .u64 y.e, .int .u64 y.q, .bool y.i.g, .int .u8 y.i.o, .int .u64 y.i.q, .int .u64 y.i.t, .string y.i.r, .slice A2 n2 c2, .int .u8 y.i.s, .int .u8 y.i.p, .int .i64 y.i.v, .int .u8 y.i.w, .int .u8 y.i.ga, .int .u64 y.i.gf, .int .u64 y.i.gt, .int .u64 y.c, .int .u64 y.b, .int .u64 y.l] 44 (0, 0)) := setRow_heap _ _ _ _ _ _ hcs89
          have hX' : (V87.setRow (w2.heap.size) #[.int .u8 y.k, .int .u8 y.f, .int .u8 y.t, .int .u64 y.e, .int .u64 y.q, .bool y.i.g, .int .u8 y.i.o, .int .u64 y.i.q, .int .u64 y.i.t, .string y.i.r, .slice A2 n2 c2, .int .u8 y.i.s, .int .u8 y.i.p, .int .i64 y.i.v, .int .u8 y.i.w, .int .u8 y.i.ga, .int .u64 y.i.gf, .int .u64 y.i.gt, .int .u64 y.c, .int .u64 y.b, .int .u64 y.l]).heap[V83.heap.size]? = some (.cells #[.int .u8 x.k, .int .u8 x.f, .int .u8 x.t, .int .u64 x.e, .int .u64 x.q, .bool x.i.g, .int .u8 x.i.o, .int .u64 x.i.q, .int .u64 x.i.t, .string x.i.r, .slice A1 n1 c1, .int .u8 x.i.s, .int .u8 x.i.p, .int .i64 x.i.v, .int .u8 x.i.w, .int .u8 x.i.ga, .int .u64 x.i.gf, .int .u64 x.i.gt, .int .u64 x.c, .int .u64 x.b, .int .u64 x.l] 44 (0, 0)) := (setRow_other _ _ _ _ (by omega)).trans hX
          generalize hV89 : V87.setRow (w2.heap.size) #[.int .u8 y.k, .int .u8 y.f, .int .u8 y.t, .int .u64 y.e, .int .u64 y.q, .bool y.i.g, .int .u8 y.i.o, .int .u64 y.i.q, .int .u64 y.i.t, .string y.i.r, .slice A2 n2 c2, .int .u8 y.i.s, .int .u8 y.i.p, .int .i64 y.i.v, .int .u8 y.i.w, .int .u8 y.i.ga, .int .u64 y.i.gf, .int .u64 y.i.gt, .int .u64 y.c, .int .u64 y.b, .int .u64 y.l] = V89 at *
          clear hV89 hcs89 hsz89 hX
          refine wpAnyH_done (by kernel_rfl) ?_ _
          refine NoPanic.normal ?_
          go_wp2_with fail
          go_meet
          exact ⟨V83.heap.size, w2.heap.size, A1, n1, c1, A2, n2, c2, rfl, rfl, ⟨Hb1.out.trans (hh89.1.mono hw1), hX', hY, ownB_mono hh89.2.2.1 (by omega), ownB_mono hh89.2.2.2.1 (by omega), HN1.out, HN2.out, by omega, by omega, by omega, fun e => by have := HL1.out _ e; omega, fun e => by have := HL1.out _ e; omega, fun e => by have := HL2.out _ e; omega, fun e => by have := HL2.out _ e; omega⟩⟩
        case' g82_4 =>
          have hb90 : Below V81.heap.size V81 (V81.alloc (.cells #[.int .u8 0, .int .u8 0, .int .u8 0, .int .u64 0, .int .u64 0, .bool false, .int .u8 0, .int .u64 0, .int .u64 0, .string ⟨#[]⟩, .slice none 0 0, .int .u8 0, .int .u8 0, .int .i64 0, .int .u8 0, .int .u8 0, .int .u64 0, .int .u64 0, .int .u64 0, .int .u64 0, .int .u64 0] 44)) := (Below.refl _ _).alloc (Nat.le_refl _) _
          go_simp
          refine hK.out _ _ ?_ (fun hh90 => ?_)
          · exact ⟨(hh81'.1.trans (hb90.mono (hh81'.1.size))), (hh81'.2.1.below hb90), (own_below hh81'.2.2 hb90)⟩
          clear hK K
          try simp only [heldPut, List.set]
          have hc90 : CellsF (V81.alloc (.cells #[.int .u8 0, .int .u8 0, .int .u8 0, .int .u64 0, .int .u64 0, .bool false, .int .u8 0, .int .u64 0, .int .u64 0, .string ⟨#[]⟩, .slice none 0 0, .int .u8 0, .int .u8 0, .int .i64 0, .int .u8 0, .int .u8 0, .int .u64 0, .int .u64 0, .int .u64 0, .int .u64 0, .int .u64 0] 44)) V81.heap.size 44 := CellsF.new _ _ _ rfl
          have hz90 : (V81.alloc (.cells #[.int .u8 0, .int .u8 0, .int .u8 0, .int .u64 0, .int .u64 0, .bool false, .int .u8 0, .int .u64 0, .int .u64 0, .string ⟨#[]⟩, .slice none 0 0, .int .u8 0, .int .u8 0, .int .i64 0, .int .u8 0, .int .u8 0, .int .u64 0, .int .u64 0, .int .u64 0, .int .u64 0, .int .u64 0] 44)).heap.size = V81.heap.size + 1 := by simp
          generalize hV90 : V81.alloc (.cells #[.int .u8 0, .int .u8 0, .int .u8 0, .int .u64 0, .int .u64 0, .bool false, .int .u8 0, .int .u64 0, .int .u64 0, .string ⟨#[]⟩, .slice none 0 0, .int .u8 0, .int .u8 0, .int .i64 0, .int .u8 0, .int .u8 0, .int .u64 0, .int .u64 0, .int .u64 0, .int .u64 0, .int .u64 0] 44) = V90 at *
          clear hV90 hb90
          refine heldMore (S2 := (fun V : World => Below w1.heap.size w1 V ∧ CellsF V w2.heap.size 44 ∧ V.ownsRow V79.heap.size 101 2 (.slice A1 n1 c1) n1 (cellsP x.i.l) ∧ CellsF V V81.heap.size 44)) (fun _ h => ⟨h.1, h.2.1, h.2.2.1⟩) ?_
          have hh90' : (fun V : World => Below w1.heap.size w1 V ∧ CellsF V w2.heap.size 44 ∧ V.ownsRow V79.heap.size 101 2 (.slice A1 n1 c1) n1 (cellsP x.i.l) ∧ CellsF V V81.heap.size 44) V90 := ⟨hh90.1, hh90.2.1, hh90.2.2, hc90⟩
          clear hh90 hc90
          replace hz90 : V81.heap.size + 1 ≤ V90.heap.size := by omega
          refine heldOne (i := 3) rfl (by kernel_rfl) (fun K hK => ?_)
          go_simp
          refine (smallF_as HX2.out HS2.out _).mono ?_
          rintro e V92 ⟨A2, n2, c2, rfl, hn2, ho2, hb92⟩
          have HN2 := Lib.hid hn2
          clear hn2
          go_wp2_with fail
          refine hK.out _ _ ?_ (fun hh92 => ?_)
          · exact ⟨(hh90'.1.trans (hb92.mono (hh90'.1.size))), (hh90'.2.1.below hb92), (own_below hh90'.2.2.1 hb92), (hh90'.2.2.2.below hb92)⟩
          clear hK K
          try simp only [heldPut, List.set]
          have hz92 := hb92.size
          have HL2 : Hid (∀ k, (Value.slice A2 n2 c2).ownBlock = some k → V90.heap.size ≤ k ∧ k < V92.heap.size) := fun k e => ho2.lt k e
          refine heldMore (S2 := (fun V : World => Below w1.heap.size w1 V ∧ CellsF V w2.heap.size 44 ∧ V.ownsRow V79.heap.size 101 2 (.slice A1 n1 c1) n1 (cellsP x.i.l) ∧ CellsF V V81.heap.size 44 ∧ V.ownsRow V90.heap.size 101 2 (.slice A2 n2 c2) n2 (cellsP y.i.l))) (fun _ h => ⟨h.1, h.2.1, h.2.2.1, h.2.2.2.1⟩) ?_
          have hh92' : (fun V : World => Below w1.heap.size w1 V ∧ CellsF V w2.heap.size 44 ∧ V.ownsRow V79.heap.size 101 2 (.slice A1 n1 c1) n1 (cellsP x.i.l) ∧ CellsF V V81.heap.size 44 ∧ V.ownsRow V90.heap.size 101 2 (.slice A2 n2 c2) n2 (cellsP y.i.l)) V92 := ⟨hh92.1, hh92.2.1, hh92.2.2.1, hh92.2.2.2, ho2⟩
          clear hh92 ho2 hb92
          refine heldOne (i := 6) rfl (by kernel_rfl) (fun K hK => ?_)
          rw [if_pos (by rfl)]
          obtain ⟨cs94, hcs94, hsz94⟩ := hh92'.2.2.2.1
          refine wp_store_row _ _ _ rfl (V81.heap.size) _ rfl rfl _ _ hcs94 Try.infoF hsz94 (by simp [Value.oneCell']) ?_
          refine hK.out _ _ ?_ (fun hh94 => ?_)
          · exact ⟨(below_setRow hh92'.1 (by omega) _), (hh92'.2.1.other (by omega) _), (own_setRowF hh92'.2.2.1 (fun e => by have := HL1.out _ e; omega) _), (hh92'.2.2.2.1.same _ rfl), (own_setRowF hh92'.2.2.2.2 (fun e => by have := HL2.out _ e; omega) _)⟩
          clear hK K
          have hX : (V92.setRow (V81.heap.size) #[.int .u8 x.k, .int .u8 x.f, .int .u8 x.t, .int .u64 x.e, .int .u64 x.q, .bool x.i.g, .int .u8 x.i.o, .int .u64 x.i.q, .int .u64 x.i.t, .string x.i.r, .slice A1 n1 c1, .int .u8 x.i.s, .int .u8 x.i.p, .int .i64 x.i.v, .int .u8 x.i.w, .int .u8 x.i.ga, .int .u64 x.i.gf, .int .u64 x.i.gt, .int .u64 x.c, .int .u64 x.b, .int .u64 x.l]).heap[V81.heap.size]? = some (.cells #[.int .u8 x.k, .int .u8 x.f, .int .u8 x.t, .int .u64 x.e, .int .u64 x.q, .bool x.i.g, .int .u8 x.i.o, .int .u64 x.i.q, .int .u64 x.i.t, .string x.i.r, .slice A1 n1 c1, .int .u8 x.i.s, .int .u8 x.i.p, .int .i64 x.i.v, .int .u8 x.i.w, .int .u8 x.i.ga, .int .u64 x.i.gf, .int .u64 x.i.gt, .int .u64 x.c, .int .u64 x.b, .int .u64 x.l] 44 (0, 0)) := setRow_heap _ _ _ _ _ _ hcs94
          generalize hV94 : V92.setRow (V81.heap.size) #[.int .u8 x.k, .int .u8 x.f, .int .u8 x.t, .int .u64 x.e, .int .u64 x.q, .bool x.i.g, .int .u8 x.i.o, .int .u64 x.i.q, .int .u64 x.i.t, .string x.i.r, .slice A1 n1 c1, .int .u8 x.i.s, .int .u8 x.i.p, .int .i64 x.i.v, .int .u8 x.i.w, .int .u8 x.i.ga, .int .u64 x.i.gf, .int .u64 x.i.gt, .int .u64 x.c, .int .u64 x.b, .int .u64 x.l] = V94 at *
          clear hV94 hcs94 hsz94 
          refine heldOne (i := 7) rfl (by kernel_rfl) (fun K hK => ?_)
          rw [if_pos (by rfl)]
          obtain ⟨cs96, hcs96, hsz96⟩ := hh94.2.1
          refine wp_store_row _ _ _ rfl (w2.heap.size) _ rfl rfl _ _ hcs96 Try.infoF hsz96 (by simp [Value.oneCell']) ?_
          refine hK.out _ _ ?_ (fun hh96 => ?_)
          · exact ⟨(below_setRow hh94.1 (by omega) _), (hh94.2.1.same _ rfl), (own_setRowF hh94.2.2.1 (fun e => by have := HL1.out _ e; omega) _), (hh94.2.2.2.1.other (by omega) _), (own_setRowF hh94.2.2.2.2 (fun e => by have := HL2.out _ e; omega) _)⟩
          clear hK K
          have hY : (V94.setRow (w2.heap.size) #[.int .u8 y.k, .int .u8 y.f, .int .u8 y.t, .int .u64 y.e, .int .u64 y.q, .bool y.i.g, .int .u8 y.i.o, .int .u64 y.i.q, .int .u64 y.i.t, .string y.i.r, .slice A2 n2 c2, .int .u8 y.i.s, .int .u8 y.i.p, .int .i64 y.i.v, .int .u8 y.i.w, .int .u8 y.i.ga, .int .u64 y.i.gf, .int .u64 y.i.gt, .int .u64 y.c, .int .u64 y.b, .int .u64 y.l]).heap[w2.heap.size]? = some (.cells #[.int .u8 y.k, .int .u8 y.f, .int .u8 y.t, .int .u64 y.e, .int .u64 y.q, .bool y.i.g, .int .u8 y.i.o, .int .u64 y.i.q, .int .u64 y.i.t, .string y.i.r, .slice A2 n2 c2, .int .u8 y.i.s, .int .u8 y.i.p, .int .i64 y.i.v, .int .u8 y.i.w, .int .u8 y.i.ga, .int .u64 y.i.gf, .int .u64 y.i.gt, .int .u64 y.c, .int .u64 y.b, .int .u64 y.l] 44 (0, 0)) := setRow_heap _ _ _ _ _ _ hcs96
          have hX' : (V94.setRow (w2.heap.size) #[.int .u8 y.k, .int .u8 y.f, .int .u8 y.t, .int .u64 y.e, .int .u64 y.q, .bool y.i.g, .int .u8 y.i.o, .int .u64 y.i.q, .int .u64 y.i.t, .string y.i.r, .slice A2 n2 c2, .int .u8 y.i.s, .int .u8 y.i.p, .int .i64 y.i.v, .int .u8 y.i.w, .int .u8 y.i.ga, .int .u64 y.i.gf, .int .u64 y.i.gt, .int .u64 y.c, .int .u64 y.b, .int .u64 y.l]).heap[V81.heap.size]? = some (.cells #[.int .u8 x.k, .int .u8 x.f, .int .u8 x.t, .int .u64 x.e, .int .u64 x.q, .bool x.i.g, .int .u8 x.i.o, .int .u64 x.i.q, .int .u64 x.i.t, .string x.i.r, .slice A1 n1 c1, .int .u8 x.i.s, .int .u8 x.i.p, .int .i64 x.i.v, .int .u8 x.i.w, .int .u8 x.i.ga, .int .u64 x.i.gf, .int .u64 x.i.gt, .int .u64 x.c, .int .u64 x.b, .int .u64 x.l] 44 (0, 0)) := (setRow_other _ _ _ _ (by omega)).trans hX
          generalize hV96 : V94.setRow (w2.heap.size) #[.int .u8 y.k, .int .u8 y.f, .int .u8 y.t, .int .u64 y.e, .int .u64 y.q, .bool y.i.g, .int .u8 y.i.o, .int .u64 y.i.q, .int .u64 y.i.t, .string y.i.r, .slice A2 n2 c2, .int .u8 y.i.s, .int .u8 y.i.p, .int .i64 y.i.v, .int .u8 y.i.w, .int .u8 y.i.ga, .int .u64 y.i.gf, .int .u64 y.i.gt, .int .u64 y.c, .int .u64 y.b, .int .u64 y.l] = V96 at *
          clear hV96 hcs96 hsz96 hX
          refine wpAnyH_done (by kernel_rfl) ?_ _
          refine NoPanic.normal ?_
          go_wp2_with fail
          go_meet
          exact ⟨V81.heap.size, w2.heap.size, A1, n1, c1, A2, n2, c2, rfl, rfl, ⟨Hb1.out.trans (hh96.1.mono hw1), hX', hY, ownB_mono hh96.2.2.1 (by omega), ownB_mono hh96.2.2.2.2 (by omega), HN1.out, HN2.out, by omega, by omega, by omega, fun e => by have := HL1.out _ e; omega, fun e => by have := HL1.out _ e; omega, fun e => by have := HL2.out _ e; omega, fun e => by have := HL2.out _ e; omega⟩⟩
      case g80_4 =>
        have hb97 : Below V79.heap.size V79 (V79.alloc (.cells #[.int .u8 0, .int .u8 0, .int .u8 0, .int .u64 0, .int .u64 0, .bool false, .int .u8 0, .int .u64 0, .int .u64 0, .string ⟨#[]⟩, .slice none 0 0, .int .u8 0, .int .u8 0, .int .i64 0, .int .u8 0, .int .u8 0, .int .u64 0, .int .u64 0, .int .u64 0, .int .u64 0, .int .u64 0] 44)) := (Below.refl _ _).alloc (Nat.le_refl _) _
        go_simp
        refine hK.out _ _ ?_ (fun hh97 => ?_)
        · exact ⟨(hh79'.1.trans (hb97.mono (hh79'.1.size))), (hh79'.2.below hb97)⟩
        clear hK K
        try simp only [heldPut, List.set]
        have hc97 : CellsF (V79.alloc (.cells #[.int .u8 0, .int .u8 0, .int .u8 0, .int .u64 0, .int .u64 0, .bool false, .int .u8 0, .int .u64 0, .int .u64 0, .string ⟨#[]⟩, .slice none 0 0, .int .u8 0, .int .u8 0, .int .i64 0, .int .u8 0, .int .u8 0, .int .u64 0, .int .u64 0, .int .u64 0, .int .u64 0, .int .u64 0] 44)) V79.heap.size 44 := CellsF.new _ _ _ rfl
        have hz97 : (V79.alloc (.cells #[.int .u8 0, .int .u8 0, .int .u8 0, .int .u64 0, .int .u64 0, .bool false, .int .u8 0, .int .u64 0, .int .u64 0, .string ⟨#[]⟩, .slice none 0 0, .int .u8 0, .int .u8 0, .int .i64 0, .int .u8 0, .int .u8 0, .int .u64 0, .int .u64 0, .int .u64 0, .int .u64 0, .int .u64 0] 44)).heap.size = V79.heap.size + 1 := by simp
        generalize hV97 : V79.alloc (.cells #[.int .u8 0, .int .u8 0, .int .u8 0, .int .u64 0, .int .u64 0, .bool false, .int .u8 0, .int .u64 0, .int .u64 0, .string ⟨#[]⟩, .slice none 0 0, .int .u8 0, .int .u8 0, .int .i64 0, .int .u8 0, .int .u8 0, .int .u64 0, .int .u64 0, .int .u64 0, .int .u64 0, .int .u64 0] 44) = V97 at *
        clear hV97 hb97
        refine heldMore (S2 := (fun V : World => Below w1.heap.size w1 V ∧ CellsF V w2.heap.size 44 ∧ CellsF V V79.heap.size 44)) (fun _ h => ⟨h.1, h.2.1⟩) ?_
        have hh97' : (fun V : World => Below w1.heap.size w1 V ∧ CellsF V w2.heap.size 44 ∧ CellsF V V79.heap.size 44) V97 := ⟨hh97.1, hh97.2, hc97⟩
        clear hh97 hc97
        replace hz97 : V79.heap.size + 1 ≤ V97.heap.size := by omega
        refine heldOne (i := 1) rfl (by kernel_rfl) (fun K hK => ?_)
        go_simp
        refine (smallF_as HX1.out HS1.out _).mono ?_
        rintro e V99 ⟨A1, n1, c1, rfl, hn1, ho1, hb99⟩
        have HN1 := Lib.hid hn1
        clear hn1
        go_wp2_with fail
        refine hK.out _ _ ?_ (fun hh99 => ?_)
        · exact ⟨(hh97'.1.trans (hb99.mono (hh97'.1.size))), (hh97'.2.1.below hb99), (hh97'.2.2.below hb99)⟩
        clear hK K
        try simp only [heldPut, List.set]
        have hz99 := hb99.size
        have HL1 : Hid (∀ k, (Value.slice A1 n1 c1).ownBlock = some k → V97.heap.size ≤ k ∧ k < V99.heap.size) := fun k e => ho1.lt k e
        refine heldMore (S2 := (fun V : World => Below w1.heap.size w1 V ∧ CellsF V w2.heap.size 44 ∧ CellsF V V79.heap.size 44 ∧ V.ownsRow V97.heap.size 101 2 (.slice A1 n1 c1) n1 (cellsP x.i.l))) (fun _ h => ⟨h.1, h.2.1, h.2.2.1⟩) ?_
        have hh99' : (fun V : World => Below w1.heap.size w1 V ∧ CellsF V w2.heap.size 44 ∧ CellsF V V79.heap.size 44 ∧ V.ownsRow V97.heap.size 101 2 (.slice A1 n1 c1) n1 (cellsP x.i.l)) V99 := ⟨hh99.1, hh99.2.1, hh99.2.2, ho1⟩
        clear hh99 ho1 hb99
        refine heldOne (i := 3) rfl (by kernel_rfl) (fun K hK => ?_)
        go_simp
        refine (smallF_as HX2.out HS2.out _).mono ?_
        rintro e V101 ⟨A2, n2, c2, rfl, hn2, ho2, hb101⟩
        have HN2 := Lib.hid hn2
        clear hn2
        go_wp2_with fail
        refine hK.out _ _ ?_ (fun hh101 => ?_)
        · exact ⟨(hh99'.1.trans (hb101.mono (hh99'.1.size))), (hh99'.2.1.below hb101), (hh99'.2.2.1.below hb101), (own_below hh99'.2.2.2 hb101)⟩
        clear hK K
        try simp only [heldPut, List.set]
        have hz101 := hb101.size
        have HL2 : Hid (∀ k, (Value.slice A2 n2 c2).ownBlock = some k → V99.heap.size ≤ k ∧ k < V101.heap.size) := fun k e => ho2.lt k e
        refine heldMore (S2 := (fun V : World => Below w1.heap.size w1 V ∧ CellsF V w2.heap.size 44 ∧ CellsF V V79.heap.size 44 ∧ V.ownsRow V97.heap.size 101 2 (.slice A1 n1 c1) n1 (cellsP x.i.l) ∧ V.ownsRow V99.heap.size 101 2 (.slice A2 n2 c2) n2 (cellsP y.i.l))) (fun _ h => ⟨h.1, h.2.1, h.2.2.1, h.2.2.2.1⟩) ?_
        have hh101' : (fun V : World => Below w1.heap.size w1 V ∧ CellsF V w2.heap.size 44 ∧ CellsF V V79.heap.size 44 ∧ V.ownsRow V97.heap.size 101 2 (.slice A1 n1 c1) n1 (cellsP x.i.l) ∧ V.ownsRow V99.heap.size 101 2 (.slice A2 n2 c2) n2 (cellsP y.i.l)) V101 := ⟨hh101.1, hh101.2.1, hh101.2.2.1, hh101.2.2.2, ho2⟩
        clear hh101 ho2 hb101
        refine heldOne (i := 6) rfl (by kernel_rfl) (fun K hK => ?_)
        rw [if_pos (by rfl)]
        obtain ⟨cs103, hcs103, hsz103⟩ := hh101'.2.2.1
        refine wp_store_row _ _ _ rfl (V79.heap.size) _ rfl rfl _ _ hcs103 Try.infoF hsz103 (by simp [Value.oneCell']) ?_
        refine hK.out _ _ ?_ (fun hh103 => ?_)
        · exact ⟨(below_setRow hh101'.1 (by omega) _), (hh101'.2.1.other (by omega) _), (hh101'.2.2.1.same _ rfl), (own_setRowF hh101'.2.2.2.1 (fun e => by have := HL1.out _ e; omega) _), (own_setRowF hh101'.2.2.2.2 (fun e => by have := HL2.out _ e; omega) _)⟩
        clear hK K
        have hX : (V101.setRow (V79.heap.size) #[.int .u8 x.k, .int .u8 x.f, .int .u8 x.t, .int .u64 x.e, .int .u64 x.q, .bool x.i.g, .int .u8 x.i.o, .int .u64 x.i.q, .int .u64 x.i.t, .string x.i.r, .slice A1 n1 c1, .int .u8 x.i.s, .int .u8 x.i.p, .int .i64 x.i.v, .int .u8 x.i.w, .int .u8 x.i.ga, .int .u64 x.i.gf, .int .u64 x.i.gt, .int .u64 x.c, .int .u64 x.b, .int .u64 x.l]).heap[V79.heap.size]? = some (.cells #[.int .u8 x.k, .int .u8 x.f, .int .u8 x.t, .int .u64 x.e, .int .u64 x.q, .bool x.i.g, .int .u8 x.i.o, .int .u64 x.i.q, .int .u64 x.i.t, .string x.i.r, .slice A1 n1 c1, .int .u8 x.i.s, .int .u8 x.i.p, .int .i64 x.i.v, .int .u8 x.i.w, .int .u8 x.i.ga, .int .u64 x.i.gf, .int .u64 x.i.gt, .int .u64 x.c, .int .u64 x.b, .int .u64 x.l] 44 (0, 0)) := setRow_heap _ _ _ _ _ _ hcs103
        generalize hV103 : V101.setRow (V79.heap.size) #[.int .u8 x.k, .int .u8 x.f, .int .u8 x.t, .int .u64 x.e, .int .u64 x.q, .bool x.i.g, .int .u8 x.i.o, .int .u64 x.i.q, .int .u64 x.i.t, .string x.i.r, .slice A1 n1 c1, .int .u8 x.i.s, .int .u8 x.i.p, .int .i64 x.i.v, .int .u8 x.i.w, .int .u8 x.i.ga, .int .u64 x.i.gf, .int .u64 x.i.gt, .int .u64 x.c, .int .u64 x.b, .int .u64 x.l] = V103 at *
        clear hV103 hcs103 hsz103 
        refine heldOne (i := 7) rfl (by kernel_rfl) (fun K hK => ?_)
        rw [if_pos (by rfl)]
        obtain ⟨cs105, hcs105, hsz105⟩ := hh103.2.1
        refine wp_store_row _ _ _ rfl (w2.heap.size) _ rfl rfl _ _ hcs105 Try.infoF hsz105 (by simp [Value.oneCell']) ?_
        refine hK.out _ _ ?_ (fun hh105 => ?_)
        · exact ⟨(below_setRow hh103.1 (by omega) _), (hh103.2.1.same _ rfl), (hh103.2.2.1.other (by omega) _), (own_setRowF hh103.2.2.2.1 (fun e => by have := HL1.out _ e; omega) _), (own_setRowF hh103.2.2.2.2 (fun e => by have := HL2.out _ e; omega) _)⟩
        clear hK K
        have hY : (V103.setRow (w2.heap.size) #[.int .u8 y.k, .int .u8 y.f, .int .u8 y.t, .int .u64 y.e, .int .u64 y.q, .bool y.i.g, .int .u8 y.i.o, .int .u64 y.i.q, .int .u64 y.i.t, .string y.i.r, .slice A2 n2 c2, .int .u8 y.i.s, .int .u8 y.i.p, .int .i64 y.i.v, .int .u8 y.i.w, .int .u8 y.i.ga, .int .u64 y.i.gf, .int .u64 y.i.gt, .int .u64 y.c, .int .u64 y.b, .int .u64 y.l]).heap[w2.heap.size]? = some (.cells #[.int .u8 y.k, .int .u8 y.f, .int .u8 y.t, .int .u64 y.e, .int .u64 y.q, .bool y.i.g, .int .u8 y.i.o, .int .u64 y.i.q, .int .u64 y.i.t, .string y.i.r, .slice A2 n2 c2, .int .u8 y.i.s, .int .u8 y.i.p, .int .i64 y.i.v, .int .u8 y.i.w, .int .u8 y.i.ga, .int .u64 y.i.gf, .int .u64 y.i.gt, .int .u64 y.c, .int .u64 y.b, .int .u64 y.l] 44 (0, 0)) := setRow_heap _ _ _ _ _ _ hcs105
        have hX' : (V103.setRow (w2.heap.size) #[.int .u8 y.k, .int .u8 y.f, .int .u8 y.t, .int .u64 y.e, .int .u64 y.q, .bool y.i.g, .int .u8 y.i.o, .int .u64 y.i.q, .int .u64 y.i.t, .string y.i.r, .slice A2 n2 c2, .int .u8 y.i.s, .int .u8 y.i.p, .int .i64 y.i.v, .int .u8 y.i.w, .int .u8 y.i.ga, .int .u64 y.i.gf, .int .u64 y.i.gt, .int .u64 y.c, .int .u64 y.b, .int .u64 y.l]).heap[V79.heap.size]? = some (.cells #[.int .u8 x.k, .int .u8 x.f, .int .u8 x.t, .int .u64 x.e, .int .u64 x.q, .bool x.i.g, .int .u8 x.i.o, .int .u64 x.i.q, .int .u64 x.i.t, .string x.i.r, .slice A1 n1 c1, .int .u8 x.i.s, .int .u8 x.i.p, .int .i64 x.i.v, .int .u8 x.i.w, .int .u8 x.i.ga, .int .u64 x.i.gf, .int .u64 x.i.gt, .int .u64 x.c, .int .u64 x.b, .int .u64 x.l] 44 (0, 0)) := (setRow_other _ _ _ _ (by omega)).trans hX
        generalize hV105 : V103.setRow (w2.heap.size) #[.int .u8 y.k, .int .u8 y.f, .int .u8 y.t, .int .u64 y.e, .int .u64 y.q, .bool y.i.g, .int .u8 y.i.o, .int .u64 y.i.q, .int .u64 y.i.t, .string y.i.r, .slice A2 n2 c2, .int .u8 y.i.s, .int .u8 y.i.p, .int .i64 y.i.v, .int .u8 y.i.w, .int .u8 y.i.ga, .int .u64 y.i.gf, .int .u64 y.i.gt, .int .u64 y.c, .int .u64 y.b, .int .u64 y.l] = V105 at *
        clear hV105 hcs105 hsz105 hX
        refine wpAnyH_done (by kernel_rfl) ?_ _
        refine NoPanic.normal ?_
        go_wp2_with fail
        go_meet
        exact ⟨V79.heap.size, w2.heap.size, A1, n1, c1, A2, n2, c2, rfl, rfl, ⟨Hb1.out.trans (hh105.1.mono hw1), hX', hY, ownB_mono hh105.2.2.2.1 (by omega), ownB_mono hh105.2.2.2.2 (by omega), HN1.out, HN2.out, by omega, by omega, by omega, fun e => by have := HL1.out _ e; omega, fun e => by have := HL1.out _ e; omega, fun e => by have := HL2.out _ e; omega, fun e => by have := HL2.out _ e; omega⟩⟩
  case rest =>
    obtain ⟨X, Y, A, n, c, A2, n2, c2, rfl, rfl, hXY⟩ := hcut
    have hxo := smallF_ok HS1.out
    have hxr := smallF_right HS1.out
    have hxs := smallF_short HS1.out
    rw [HX1.out] at hxo hxr hxs
    have hyo := smallF_ok HS2.out
    have hyr := smallF_right HS2.out
    have hys := smallF_short HS2.out
    rw [HX2.out] at hyo hyr hys
    have hn1 : n ≤ maxLen := by rw [hXY.nx]; have := hxs.l; unfold maxLen; omega
    have hn2 : n2 ≤ maxLen := by rw [hXY.ny]; have := hys.l; unfold maxLen; omega
    have HM1 := Lib.hid hn1
    have HM2 := Lib.hid hn2
    have HXO := Lib.hid hxo
    have HXS := Lib.hid hxs
    have HYO := Lib.hid hyo
    have HYS := Lib.hid hys
    obtain ⟨b, hb⟩ : ∃ b, sameF x y = b := ⟨_, rfl⟩
    have HBB := Lib.hid hb
    have HEq : Hid ((b == ((strB (frB x)).toList == (strB (frB y)).toList)) = true) := by
      show _ = _
      rw [strB_eq (frB_ok hxo hxs) (frB_ok hyo hys), ← hb, sameF_bytes hxo hyo hxr hyr]
      simp
    have HMX := Lib.hid (show ∀ V, Below wc.heap.size wc V → V.heap[X]? = some (.cells #[.int .u8 x.k, .int .u8 x.f, .int .u8 x.t, .int .u64 x.e, .int .u64 x.q, .bool x.i.g, .int .u8 x.i.o, .int .u64 x.i.q, .int .u64 x.i.t, .string x.i.r, .slice A n c, .int .u8 x.i.s, .int .u8 x.i.p, .int .i64 x.i.v, .int .u8 x.i.w, .int .u8 x.i.ga, .int .u64 x.i.gf, .int .u64 x.i.gt, .int .u64 x.c, .int .u64 x.b, .int .u64 x.l] 44 (0, 0)) from fun V hV => (hV.block _ hXY.ltx).trans hXY.hx)
    have HMY := Lib.hid (show ∀ V, Below wc.heap.size wc V → V.heap[Y]? = some (.cells #[.int .u8 y.k, .int .u8 y.f, .int .u8 y.t, .int .u64 y.e, .int .u64 y.q, .bool y.i.g, .int .u8 y.i.o, .int .u64 y.i.q, .int .u64 y.i.t, .string y.i.r, .slice A2 n2 c2, .int .u8 y.i.s, .int .u8 y.i.p, .int .i64 y.i.v, .int .u8 y.i.w, .int .u8 y.i.ga, .int .u64 y.i.gf, .int .u64 y.i.gt, .int .u64 y.c, .int .u64 y.b, .int .u64 y.l] 44 (0, 0)) from fun V hV => (hV.block _ hXY.lty).trans hXY.hy)
    have HRX := Lib.hid (show ∀ V, Below wc.heap.size wc V → RdP V V.heap.size A x.i.l from fun V hV => RdP.of_own (own_below hXY.ox hV))
    have HRY := Lib.hid (show ∀ V, Below wc.heap.size wc V → RdP V V.heap.size A2 y.i.l from fun V hV => RdP.of_own (own_below hXY.oy hV))
    have HWR := Lib.hid hXY.bl
    have HNX := Lib.hid hXY.nx
    have HNY := Lib.hid hXY.ny
    obtain ⟨r1, hr1⟩ : ∃ r : Value, r = .agg #[.int .u8 x.k, .int .u8 x.f, .int .u8 x.t, .int .u64 x.e, .int .u64 x.q, .bool x.i.g, .int .u8 x.i.o, .int .u64 x.i.q, .int .u64 x.i.t, .string x.i.r, .slice A n c, .int .u8 x.i.s, .int .u8 x.i.p, .int .i64 x.i.v, .int .u8 x.i.w, .int .u8 x.i.ga, .int .u64 x.i.gf, .int .u64 x.i.gt, .int .u64 x.c, .int .u64 x.b, .int .u64 x.l] := ⟨_, rfl⟩
    obtain ⟨r2, hr2⟩ : ∃ r : Value, r = .agg #[.int .u8 y.k, .int .u8 y.f, .int .u8 y.t, .int .u64 y.e, .int .u64 y.q, .bool y.i.g, .int .u8 y.i.o, .int .u64 y.i.q, .int .u64 y.i.t, .string y.i.r, .slice A2 n2 c2, .int .u8 y.i.s, .int .u8 y.i.p, .int .i64 y.i.v, .int .u8 y.i.w, .int .u8 y.i.ga, .int .u64 y.i.gf, .int .u64 y.i.gt, .int .u64 y.c, .int .u64 y.b, .int .u64 y.l] := ⟨_, rfl⟩
    have HR1 := Lib.hid hr1
    have HR2 := Lib.hid hr2
    have HK2 := Lib.hid (show ∀ V, Below wc.heap.size wc V → Calls Try.prog 11 #[r1, r2] V fun e w' => e = .returned (.bool b) ∧ Below V.heap.size V w' from fun V hV => by
      rw [hr1, hr2]; exact same_as x y b HBB.out A n c A2 n2 c2 V HNX.out HNY.out HM1.out (HRX.out _ hV) (HRY.out _ hV))
    have HK4 := Lib.hid (show ∀ V, Below wc.heap.size wc V → Calls Try.prog 12 #[r1] V fun e w' => ∃ v', e = .returned v' ∧ w'.ownsRow V.heap.size 5 1 v' (frB x).length (cellsB (frB x)) ∧ Below V.heap.size V w' from fun V hV => by
      rw [hr1]; exact fref_any x A n c HXO.out HXS.out HNX.out V (HRX.out _ hV))
    have HK7 := Lib.hid (show ∀ V, Below wc.heap.size wc V → Calls Try.prog 12 #[r2] V fun e w' => ∃ v', e = .returned v' ∧ w'.ownsRow V.heap.size 5 1 v' (frB y).length (cellsB (frB y)) ∧ Below V.heap.size V w' from fun V hV => by
      rw [hr2]; exact fref_any y A2 n2 c2 HYO.out HYS.out HNY.out V (HRY.out _ hV))
    have HK14 := Lib.hid (show ∀ V, Below wc.heap.size wc V → Calls Try.prog 11 #[r1, r1] V fun e w' => e = .returned (.bool true) ∧ Below V.heap.size V w' from fun V hV => by
      rw [hr1]; exact same_self x A n c A n c V HNX.out HNX.out HM1.out (HRX.out _ hV) (HRX.out _ hV))
    clear hXY hxo hxr hxs hyo hyr hys hn1 hn2 hb HC1 HC2 HS1 HS2 HX1 HX2 Hb1 hw1 hr1 hr2 HBB HM1 HM2 HXO HXS HYO HYS HNX HNY HRX HRY
    go_upto_region 4 with fail
    generalize (.agg #[.int .u8 s.k, .int .u8 s.f, .int .u8 s.t, .int .u16 s.e, .int .u16 s.q, .int .u16 s.c, .int .u16 s.l, .int .u64 s.b, .bool s.i.g, .int .u8 s.i.o, .int .u8 s.i.p, .int .u8 s.i.w, .int .u16 s.i.q, .int .u16 s.i.m, .int .u16 s.i.t, .int .u8 s.i.r, .int .u8 s.i.l, .int .u8 s.i.v, .bool s.i.s] : Value) = vs0
    generalize (.agg #[.int .u8 u.k, .int .u8 u.f, .int .u8 u.t, .int .u16 u.e, .int .u16 u.q, .int .u16 u.c, .int .u16 u.l, .int .u64 u.b, .bool u.i.g, .int .u8 u.i.o, .int .u8 u.i.p, .int .u8 u.i.w, .int .u16 u.i.q, .int .u16 u.i.m, .int .u16 u.i.t, .int .u8 u.i.r, .int .u8 u.i.l, .int .u8 u.i.v, .bool u.i.s] : Value) = vu0
    refine wp_region_noPanic ?_
    refine wp_region_held_drew (S := (fun V => Below wc.heap.size wc V)) (by kernel_rfl) ?_ (fun hHeld => ?_)
    · exact (Below.refl _ _).drew
    refine heldTake (i := 0) (v := r1) rfl (by kernel_rfl) (by kernel_rfl) (by kernel_rfl) (fun _ _ _ h => h) (Or.inl ⟨by rfl, ?_⟩) (by assumption) ?_
    · (intro w hSw; rw [HR1.out]; exact exec_load_row 44 _ rfl X rfl _ _ _ _ (HMX.out _ (hSw)) Try.underlying44 rfl Try.infoF)
    try simp only [heldPut, List.set]
    refine heldTake (i := 1) (v := r2) rfl (by kernel_rfl) (by kernel_rfl) (by kernel_rfl) (fun _ _ _ h => h) (Or.inl ⟨by rfl, ?_⟩) (by assumption) ?_
    · (intro w hSw; rw [HR2.out]; exact exec_load_row 44 _ rfl Y rfl _ _ _ _ (HMY.out _ (hSw)) Try.underlying44 rfl Try.infoF)
    try simp only [heldPut, List.set]
    refine heldTake (i := 3) (v := r1) rfl (by kernel_rfl) (by kernel_rfl) (by kernel_rfl) (fun _ _ _ h => h) (Or.inl ⟨by rfl, ?_⟩) (by assumption) ?_
    · (intro w hSw; rw [HR1.out]; exact exec_load_row 44 _ rfl X rfl _ _ _ _ (HMX.out _ (hSw)) Try.underlying44 rfl Try.infoF)
    try simp only [heldPut, List.set]
    refine heldTake (i := 6) (v := r2) rfl (by kernel_rfl) (by kernel_rfl) (by kernel_rfl) (fun _ _ _ h => h) (Or.inl ⟨by rfl, ?_⟩) (by assumption) ?_
    · (intro w hSw; rw [HR2.out]; exact exec_load_row 44 _ rfl Y rfl _ _ _ _ (HMY.out _ (hSw)) Try.underlying44 rfl Try.infoF)
    try simp only [heldPut, List.set]
    refine heldOne (i := 2) rfl (by kernel_rfl) (fun K hK => ?_)
    go_simp
    refine (HK2.out _ hHeld).mono ?_
    rintro e V32 ⟨rfl, hb⟩
    go_wp2_with fail
    refine hK.out _ _ ?_ (fun hHeld => ?_)
    · exact hHeld.trans (hb.mono hHeld.size)
    clear hK K hb
    try simp only [heldPut, List.set]
    refine heldOne (i := 4) rfl (by kernel_rfl) (fun K hK => ?_)
    go_simp
    refine (HK4.out _ hHeld).mono ?_
    rintro e V34 ⟨v4, rfl, ho4, hb⟩
    have HO4 := Lib.hid ho4
    clear ho4
    go_wp2_with fail
    refine hK.out _ _ ?_ (fun hHeld => ?_)
    · exact hHeld.trans (hb.mono hHeld.size)
    clear hK K
    try simp only [heldPut, List.set]
    refine heldMore (S2 := fun V => Below wc.heap.size wc V ∧ Below V34.heap.size V34 V) (fun _ h => h.1) ?_
    replace hHeld : Below wc.heap.size wc V34 ∧ Below V34.heap.size V34 V34 := ⟨hHeld, Below.refl _ _⟩
    clear hb
    refine heldTake (i := 5) (v := ?_) rfl (by kernel_rfl) (by kernel_rfl) (by kernel_rfl) (fun _ _ _ h => h) (Or.inl ⟨by rfl, ?_⟩) (by assumption) ?_
    rotate_left
    · (intro w hSw; have k := conv_own (own_below HO4.out hSw.2); clear hSw; (try dsimp only at k); go_simp; try with_reducible rfl)
    try simp only [heldPut, List.set]
    refine heldOne (i := 7) rfl (by kernel_rfl) (fun K hK => ?_)
    go_simp
    refine (HK7.out _ hHeld.1).mono ?_
    rintro e V37 ⟨v7, rfl, ho7, hb⟩
    have HO7 := Lib.hid ho7
    clear ho7
    go_wp2_with fail
    refine hK.out _ _ ?_ (fun hHeld => ?_)
    · exact ⟨hHeld.1.trans (hb.mono hHeld.1.size), hHeld.2.trans (hb.mono hHeld.2.size)⟩
    clear hK K
    try simp only [heldPut, List.set]
    refine heldMore (S2 := fun V => Below wc.heap.size wc V ∧ Below V34.heap.size V34 V ∧ Below V37.heap.size V37 V) (fun _ h => ⟨h.1, h.2.1⟩) ?_
    replace hHeld : Below wc.heap.size wc V37 ∧ Below V34.heap.size V34 V37 ∧ Below V37.heap.size V37 V37 := ⟨hHeld.1, hHeld.2, Below.refl _ _⟩
    clear hb
    refine heldTake (i := 8) (v := ?_) rfl (by kernel_rfl) (by kernel_rfl) (by kernel_rfl) (fun _ _ _ h => h) (Or.inl ⟨by rfl, ?_⟩) (by assumption) ?_
    rotate_left
    · (intro w hSw; have k := conv_own (own_below HO7.out hSw.2.2); clear hSw; (try dsimp only at k); go_simp; try with_reducible rfl)
    try simp only [heldPut, List.set]
    refine heldTake (i := 9) (v := ?_) rfl (by kernel_rfl) (by kernel_rfl) (by kernel_rfl) (fun _ _ _ h => h) (Or.inl ⟨by rfl, ?_⟩) (by assumption) ?_
    rotate_left
    · (intro w hSw; (try dsimp only at hSw); go_simp; try with_reducible rfl)
    try simp only [heldPut, List.set]
    refine heldTake (i := 10) (v := ?_) rfl (by kernel_rfl) (by kernel_rfl) (by kernel_rfl) (fun _ _ _ h => h) (Or.inl ⟨by rfl, ?_⟩) (by assumption) ?_
    rotate_left
    · (intro w hSw; (try dsimp only at hSw); go_simp; try with_reducible rfl)
    try simp only [heldPut, List.set]
    refine heldTake (i := 11) (v := ?_) rfl (by kernel_rfl) (by kernel_rfl) (by kernel_rfl) (fun _ _ _ h => h) (Or.inl ⟨by rfl, ?_⟩) (by assumption) ?_
    rotate_left
    · (intro w hSw; (try dsimp only at hSw); go_simp; try with_reducible rfl)
    try simp only [heldPut, List.set]
    rw [HEq.out]
    refine heldTake (i := 12) (v := r1) rfl (by kernel_rfl) (by kernel_rfl) (by kernel_rfl) (fun _ _ _ h => h) (Or.inl ⟨by rfl, ?_⟩) (by assumption) ?_
    · (intro w hSw; rw [HR1.out]; exact exec_load_row 44 _ rfl X rfl _ _ _ _ (HMX.out _ (hSw.1)) Try.underlying44 rfl Try.infoF)
    try simp only [heldPut, List.set]
    refine heldTake (i := 13) (v := r1) rfl (by kernel_rfl) (by kernel_rfl) (by kernel_rfl) (fun _ _ _ h => h) (Or.inl ⟨by rfl, ?_⟩) (by assumption) ?_
    · (intro w hSw; rw [HR1.out]; exact exec_load_row 44 _ rfl X rfl _ _ _ _ (HMX.out _ (hSw.1)) Try.underlying44 rfl Try.infoF)
    try simp only [heldPut, List.set]
    refine heldOne (i := 14) rfl (by kernel_rfl) (fun K hK => ?_)
    go_simp
    refine (HK14.out _ hHeld.1).mono ?_
    rintro e V314 ⟨rfl, hb⟩
    go_wp2_with fail
    refine hK.out _ _ ?_ (fun hHeld => ?_)
    · exact ⟨hHeld.1.trans (hb.mono hHeld.1.size), hHeld.2.1.trans (hb.mono hHeld.2.1.size), hHeld.2.2.trans (hb.mono hHeld.2.2.size)⟩
    clear hK K hb
    try simp only [heldPut, List.set]
    refine heldTake (i := 15) (v := ?_) rfl (by kernel_rfl) (by kernel_rfl) (by kernel_rfl) (fun _ _ _ h => h) (Or.inl ⟨by rfl, ?_⟩) (by assumption) ?_
    rotate_left
    · (intro w hSw; (try dsimp only at hSw); go_simp; try with_reducible rfl)
    try simp only [heldPut, List.set]
    refine heldTake (i := 16) (v := ?_) rfl (by kernel_rfl) (by kernel_rfl) (by kernel_rfl) (fun _ _ _ h => h) (Or.inl ⟨by rfl, ?_⟩) (by assumption) ?_
    rotate_left
    · (intro w hSw; (try dsimp only at hSw); go_simp; try with_reducible rfl)
    try simp only [heldPut, List.set]
    refine wpAnyH_done (by kernel_rfl) ?_ _
    refine NoPanic.normal ?_
    have hend := HWR.out.trans (hHeld.1.mono HWR.out.size)
    clear hHeld HO4 HO7
    go_wp2
    go_ret
    exact ⟨rfl, hend⟩
end Go.Proofs.Ytnagmopejblegaa.frameSame
