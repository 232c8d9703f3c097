/- Layer 11: RecvPlays' walk. -/
import Derived.Test.YtileaoanekphaaaRvPlk
import Derived.Test.YtileaoanekphaaaRvOpen
namespace Go.Proofs.Ytileaoanekphaaa
open Go.RowKit
namespace recvPlays
theorem Try.infoAc : (Try.prog.info? 45).map (·.size) = some 27 := by kernel_rfl
theorem boxA (W : World) (Z cs : Array Value) : ∃ V, V = (W.alloc (.cells Z 45)).setRow W.heap.size cs ∧ V.heap[W.heap.size]? = some (.cells cs 45 (0, 0)) ∧ Below W.heap.size W V ∧ W.heap.size < V.heap.size := by
  have h := setRow_heap (W.alloc (.cells Z 45)) W.heap.size Z cs _ _ (heap_alloc_new _ _)
  exact ⟨_, rfl, h, below_setRow ((Below.refl _ _).alloc (Nat.le_refl _) _) (Nat.le_refl _) _, (Array.getElem?_eq_some_iff.1 h).1⟩
/-- behind the choice of what is taken: the call at p, the item at p4 -/
structure TKs (w w1 : World) (s m g W i t o k : Nat) (S : Nat → Prop) (F : Hs) (L : List Ett) (p : Nat) (y : Ac) (p4 : Nat) (x : It) (A : Option Addr) (n c : Nat) : Prop where
  rp : RP w w1 s m g W i t o k S F L
  xo : XOk w1 s m S x A n
  hp : w1.heap[p]? = some (.cells (acC y).toArray 45 (0, 0))
  h4 : w1.heap[p4]? = some (.cells #[.bool x.g, .int .u8 x.o, .int .u64 x.q, .int .u64 x.t, .string x.r, .slice A n c, .int .u8 x.s, .int .u8 x.p, .int .i64 x.v, .int .u8 x.w, .int .u8 x.ga, .int .u64 x.gf, .int .u64 x.gt] 43 (0, 0))
  lo : w.heap.size ≤ p4 ∧ p4 ≠ p
  fr : ¬ S p4 ∧ ¬ Two s m p4
  fF : ∀ q h, F q = some h → ∀ a, h.A = some a → 0 < h.x.l.length → a.block < p4
  fL : ∀ e ∈ L, ∀ a, e.A = some a → 0 < e.x.l.length → a.block < p4
def TK (w w1 : World) (s m g W i p : Nat) (y : Ac) (p4 : Nat) (x : It) (A : Option Addr) (n c : Nat) : Prop := ∃ t o k S F L, TKs w w1 s m g W i t o k S F L p y p4 x A n c
theorem tk_end {w w3 w6 : World} {s m g W i t o k p p4 n c : Nat} {S : Nat → Prop} {F : Hs} {L : List Ett} {y : Ac} {x : It} {A : Option Addr} (h : RP w w3 s m g W i t o k S F L) (hp : w3.heap[p]? = some (.cells (acC y).toArray 45 (0, 0)))
    (hb : Below w3.heap.size w3 w6) (hok : OkI x) (hl : x.l.length ≤ 12) (hn : n = x.l.length) (ho : w6.ownsRow w3.heap.size 66 2 (.slice A n c) n (cellsP x.l)) (h4 : w6.heap[p4]? = some (.cells #[.bool x.g, .int .u8 x.o, .int .u64 x.q, .int .u64 x.t, .string x.r, .slice A n c, .int .u8 x.s, .int .u8 x.p, .int .i64 x.v, .int .u8 x.w, .int .u8 x.ga, .int .u64 x.gf, .int .u64 x.gt] 43 (0, 0))) (hp4 : w3.heap.size ≤ p4) :
    TK w w6 s m g W i p y p4 x A n c := by
  have hpl := (Array.getElem?_eq_some_iff.1 hp).1
  have hS : ∀ j, w3.heap.size ≤ j → ¬ S j ∧ ¬ Two s m j := fun j hj => ⟨fun e => by have := h.rm.lt j e; omega, fun e => by
    have h1 := h.rv.slt
    have h2 := h.rv.mi.lt
    rcases e with e | e <;> omega⟩
  refine ⟨t, o, k, S, F, L, h.below hb, ⟨hn, by omega, fun hA => own_nilA ho hA, by subst hn; exact RdP.of_own ho, hok, fun a ha h0 => hS _ (ho.lt a.block (by rw [ha]; rfl)).1⟩, (hb.block p hpl).trans hp, h4, ⟨Nat.le_trans h.bl.size hp4, by omega⟩, hS p4 hp4, fun q y hy a ha h0 => Nat.lt_of_lt_of_le (rdP_lt (h.rv.ent q y hy).rd ha h0) hp4, fun e he a ha h0 => Nat.lt_of_lt_of_le (rdP_lt (h.rm.ent e he).rd ha h0) hp4⟩
theorem onlyRow11 (g : Nat) (cs : Array Value) (w : World) : Only (fun k => k = g) w (w.setRow g cs) := ⟨rfl, rfl, rfl, by simp [World.setRow], fun k _ hne => setRow_other w g k cs hne⟩
/-- another item is laid at p4: that of the call itself -/
theorem TKs.raw {w w1 : World} {s m g W i t o k p p4 n c : Nat} {S : Nat → Prop} {F : Hs} {L : List Ett} {y : Ac} {x : It} {A : Option Addr} (h : TKs w w1 s m g W i t o k S F L p y p4 x A n c) (hy : OkAc w y) (h12 : y.n ≤ 12) :
    TKs w (w1.setRow p4 #[.bool (y.x).g, .int .u8 (y.x).o, .int .u64 (y.x).q, .int .u64 (y.x).t, .string (y.x).r, .slice y.A y.n y.c, .int .u8 (y.x).s, .int .u8 (y.x).p, .int .i64 (y.x).v, .int .u8 (y.x).w, .int .u8 (y.x).ga, .int .u64 (y.x).gf, .int .u64 (y.x).gt]) s m g W i t o k S F L p y p4 y.x y.A y.n y.c := by
  have ho := onlyRow11 p4 #[.bool (y.x).g, .int .u8 (y.x).o, .int .u64 (y.x).q, .int .u64 (y.x).t, .string (y.x).r, .slice y.A y.n y.c, .int .u8 (y.x).s, .int .u8 (y.x).p, .int .i64 (y.x).v, .int .u8 (y.x).w, .int .u8 (y.x).ga, .int .u64 (y.x).gf, .int .u64 (y.x).gt] w1
  have hr := h.rp
  have hlow : ∀ a, y.A = some a → 0 < y.x.l.length → a.block < w.heap.size := fun a ha h0 => rdP_lt hy.rd ha h0
  have hlo := h.lo.1
  have hrp : RP w (w1.setRow p4 #[.bool (y.x).g, .int .u8 (y.x).o, .int .u64 (y.x).q, .int .u64 (y.x).t, .string (y.x).r, .slice y.A y.n y.c, .int .u8 (y.x).s, .int .u8 (y.x).p, .int .i64 (y.x).v, .int .u8 (y.x).w, .int .u8 (y.x).ga, .int .u64 (y.x).gf, .int .u64 (y.x).gt]) s m g W i t o k S F L :=
    ⟨hr.rv.keep ho (fun e => h.fr.2 (.inl e.symm)) (fun e => h.fr.2 (.inr e.symm)) (fun q z hz a ha h0 e => by have := h.fF q z hz a ha h0; omega),
      hr.rm.keep ho (fun k hk e => h.fr.1 (by rw [← e]; exact hk)) (fun e he a ha h0 e2 => by have := h.fL e he a ha h0; omega),
      hr.sS, hr.hF, hr.lF, hr.ag, hr.len, hr.win, hr.cnt, hr.W64, below_setRow hr.bl hlo _, hr.new⟩
  refine ⟨hrp, ⟨hy.n, h12, hy.nil, ho.rdP (rdP_keep8 hy.rd hr.bl) (fun a ha h0 e => by have := hlow a ha h0; omega), hy.ok, fun a ha h0 => ⟨fun e => by have := hr.new.2 _ e; have := hlow a ha h0; omega, fun e => by
    have h1 := hr.new.1
    have h2 := hlow a ha h0
    rcases e with e | e <;> omega⟩⟩, (ho.block p (Array.getElem?_eq_some_iff.1 h.hp).1 (fun e => h.lo.2 e.symm)).trans h.hp, setRow_heap _ _ _ _ _ _ h.h4, h.lo, h.fr, h.fF, h.fL⟩
set_option maxRecDepth 100000 in
set_option maxHeartbeats 8000000 in
theorem walk (x0 N c : Nat) (A : Option Addr) (w : World) (hm : N ≤ maxLen) (hr : RdAc w A N) :
    Calls Try.prog 3 #[.int .u8 x0, .slice A N c] w fun e w' => e = .returned (.bool true) ∧ Below w.heap.size w w' := by
  unfold maxLen at hm
  obtain ⟨r0, hr0⟩ : ∃ r, r = x0 % 64 := ⟨_, rfl⟩
  obtain ⟨W, hW⟩ : ∃ W, W = 1 + r0 := ⟨_, rfl⟩
  have hW1 : 1 ≤ W := by omega
  have hW2 : W ≤ 64 := by omega
  have e1 : (x0 : Int) % 64 = (r0 : Int) := by omega
  have e2 : (1 : Int) + (r0 : Int) = (W : Int) := by omega
  have HR := Lib.hid hr
  clear hr hr0 hW
  go_enter Try.func3, Try.ntmps3
  go_wp2_with fail
  refine (awake11_any w).mono ?_
  rintro _ w0 ⟨rfl, hb0⟩
  have HB0 := Lib.hid hb0
  clear hb0
  have HNW := Lib.hid (rnew_any W hW1 hW2 w0)
  go_wp2_with fail
  refine HNW.out.mono ?_
  rintro _ w1 ⟨rfl, hr1, hb1⟩
  obtain ⟨s, hs⟩ : ∃ s, s = w0.heap.size + 1 := ⟨_, rfl⟩
  obtain ⟨m, hmm⟩ : ∃ m, m = w0.heap.size := ⟨_, rfl⟩
  rw [← hs] at hr1 ⊢
  rw [← hmm] at hr1
  have HS : Hid (w.heap.size ≤ s ∧ w.heap.size ≤ m) := by have := HB0.out.size; exact ⟨by omega, by omega⟩
  have HR1 := Lib.hid hr1
  have HB1 := Lib.hid (HB0.out.trans (hb1.mono HB0.out.size))
  clear hr1 hb1 hs hmm HNW HB0
  go_upto_region 6 with fail
  obtain ⟨w2, hw2⟩ : ∃ z, z = w1.alloc (.cells (mrC ⟨W, 1, 0⟩ (.slice none 0 0)) 32) := ⟨_, rfl⟩
  have hw2' : w1.alloc (.cells #[.int .i64 (W : Int), .int .u64 1, .int .u64 0, .slice none 0 0] 32) = w2 := by rw [hw2]; rfl
  rw [hw2']
  obtain ⟨g, hg⟩ : ∃ g, g = w1.heap.size := ⟨_, rfl⟩
  rw [← hg]
  have hb2 : Below w1.heap.size w1 w2 := by rw [hw2]; exact (Below.refl _ _).alloc (Nat.le_refl _) _
  have hrp : RPx w w2 s m g W 0 := by
    have h1 := HR1.out.slt
    have h2 := HR1.out.mi.lt
    have h3 := HB1.out.size
    have hmr := MrAt.made w1 W
    rw [← hw2, ← hg] at hmr
    exact ⟨_, _, _, _, _, _, RP.made (HB1.out.trans (hb2.mono HB1.out.size)) (HR1.out.below hb2) hmr ⟨hW1, hW2⟩ HS.out ⟨by omega, by omega, by omega⟩⟩
  have HRP := Lib.hid hrp
  clear hw2 hw2' hg hb2 hrp HR1 HB1
  go_wp2
  clear e1 e2
  go_loopw [39] (fun iv wx => ∃ i : Nat, i ≤ N ∧ i ≤ 101 ∧ iv = .int .i64 i ∧ Hid (RPx w wx s m g W i)) (fun iv _ => N - (intOf iv).toNat)
  case atStart => exact ⟨0, Nat.zero_le _, by decide, rfl, HRP.out⟩
  case round =>
    obtain ⟨i, hi, hi101, rfl, HB⟩ := hrel
    clear HRP
    have hbl : Below w.heap.size w wr := by
      obtain ⟨t, o, k, S, F, L, h⟩ := HB.out
      exact h.bl
    by_cases hlt : i < N
    · have q1 : decide ((i : Int) < (N : Int)) = true := decide_eq_true (by omega)
      have q2 : decide (i < N) = true := decide_eq_true hlt
      obtain ⟨b, o, y, rfl, hrow, hok⟩ := HR.out.at_ hbl hlt
      have HOK := Lib.hid hok
      clear hok hbl
      go_upto_region 9 with (first
        | (refine wpList_load_mid rfl _ _ rfl b (o + i * 27) rfl (acC y) _ hrow Try.underlying45 rfl Try.infoAc ?_)
        | (refine wpList_store_row rfl _ _ _ rfl wr.heap.size _ rfl rfl _ _ (heap_alloc_new _ _) Try.infoAc rfl (by simp [Value.oneCell', acC]) ?_)
        | fail)
      obtain ⟨w3, hw3, hc3, hb3, hl3⟩ := boxA wr #[.int .u8 0, .int .u64 0, .bool false, .int .u8 0, .int .u8 0, .int .u8 0, .int .u16 0, .int .u16 0, .int .u16 0, .int .u8 0, .int .u8 0, .int .u8 0, .bool false, .bool false, .int .u8 0, .int .u64 0, .int .u64 0, .string ⟨#[]⟩, .slice none 0 0, .int .u8 0, .int .u8 0, .int .i64 0, .int .u8 0, .int .u8 0, .int .u64 0, .int .u64 0, .bool false] (acC y).toArray
      rw [← hw3, act_put_no]
      obtain ⟨p, hp⟩ : ∃ p, p = wr.heap.size := ⟨_, rfl⟩
      rw [← hp] at hc3 hl3 ⊢
      have HB3 : Hid (RPx w w3 s m g W i) := by
        obtain ⟨t, o, k, S, F, L, h⟩ := HB.out
        exact ⟨t, o, k, S, F, L, h.below hb3⟩
      have hbl3 : Below w.heap.size w w3 := by
        obtain ⟨t, o, k, S, F, L, h⟩ := HB3.out
        exact h.bl
      have HBL3 := Lib.hid hbl3
      have HC3 := Lib.hid hc3
      have c18 : w3.cell? ⟨p, 18, none⟩ = some (.slice y.A y.n y.c) := cell_of_row _ _ 18 _ _ _ hc3
      have c0 : w3.cell? ⟨p, 0, none⟩ = some (.int .u8 y.kd) := cell_of_row _ _ 0 _ _ _ hc3
      have HLP : Hid (w.heap.size ≤ p) := by
        obtain ⟨t, o, k, S, F, L, h⟩ := HB.out
        have := h.bl.size
        show w.heap.size ≤ p
        omega
      clear hw3 hc3 hb3 hl3 hp hbl3 hrow HB q1 q2
      by_cases h100 : 100 < i
      · have p1 : decide ((100 : Int) < (i : Int)) = true := decide_eq_true (by omega)
        have p2 : decide (100 < i) = true := decide_eq_true h100
        go_wp2
        go_ret
        exact ⟨rfl, HBL3.out⟩
      have p1 : decide ((100 : Int) < (i : Int)) = false := decide_eq_false (by omega)
      have p2 : decide (100 < i) = false := decide_eq_false h100
      by_cases h12 : 12 < y.n
      · have p3 : decide ((12 : Int) < (y.n : Int)) = true := decide_eq_true (by omega)
        have p4 : decide (12 < y.n) = true := decide_eq_true h12
        go_wp2
        go_ret
        exact ⟨rfl, HBL3.out⟩
      have p3 : decide ((12 : Int) < (y.n : Int)) = false := decide_eq_false (by omega)
      have p4 : decide (12 < y.n) = false := decide_eq_false h12
      have HY12 : Hid (y.n ≤ 12) := by show y.n ≤ 12; omega
      obtain ⟨k8, hk8⟩ : ∃ k8, k8 = y.kd % 8 := ⟨_, rfl⟩
      have e3 : (y.kd : Int) % 8 = (k8 : Int) := by omega
      obtain ⟨bk, hbk⟩ : ∃ bk, bk = decide (5 ≤ k8) := ⟨_, rfl⟩
      have d1 : decide ((5 : Int) ≤ (k8 : Int)) = bk := by rw [hbk]; exact decide_eq_decide.2 (by omega)
      have d2 : decide (5 ≤ k8) = bk := hbk.symm
      clear hk8 h12 hbk
      go_upto_if 57 with fail
      clear e3 p1 p2 p3 p4 c18 c0 d1 d2
      go_cut [11, 12, 13, 14] from 58 to 93 (fun a b _ _ wx => ∃ z : Int, a = .int .i64 z ∧ b = .int .i64 z ∧ Hid (RPx w wx s m g W (i + 1)))
      case first =>
        cases bk with
        | true =>
          obtain ⟨t, o2, k, S, F, L, h⟩ := HB3.out
          have HNX := Lib.hid (rp_next h (by omega))
          clear h HB3
          go_wp2_with fail
          refine HNX.out.mono ?_
          rintro _ w4 ⟨z, rfl, h4⟩
          have HN4 := Lib.hid h4
          clear h4 HNX
          go_wp2_with fail
          refine HN4.out.mono ?_
          rintro _ w5 ⟨rfl, h5⟩
          have HR5 := Lib.hid h5
          clear h5 HN4
          go_wp2_with fail
          go_meet
          exact ⟨z, rfl, rfl, HR5.out⟩
        | false =>
          obtain ⟨t, o2, k, S, F, L, h⟩ := HB3.out
          have HRP := Lib.hid h
          clear h HB3
          obtain ⟨t1, ht1⟩ : ∃ z, z = t + 1 := ⟨_, rfl⟩
          obtain ⟨W3, hW3⟩ : ∃ z, z = W + 3 := ⟨_, rfl⟩
          obtain ⟨d, hd⟩ : ∃ d, d = y.sq % W3 := ⟨_, rfl⟩
          obtain ⟨q, hq⟩ : ∃ q, q = t1 + d := ⟨_, rfl⟩
          have hcnt := HRP.out.cnt
          have hdW : d < W3 := by rw [hd]; exact Nat.mod_lt _ (by omega)
          have e3 : (W : Int) + 3 = (W3 : Int) := by omega
          have e4 : IntKind.i64.wrap (W3 : Int) = (W3 : Int) := by rw [IntKind.wrap_i64]; omega
          have e5 : IntKind.u64.wrap (W3 : Int) = (W3 : Int) := by rw [IntKind.wrap_u64]; omega
          have e6 : (y.sq : Int).tmod (W3 : Int) = (d : Int) := by rw [Int.tmod_eq_emod_of_nonneg (by omega), hd]; exact (Int.natCast_emod y.sq W3).symm
          have e7 : (t1 : Int) + (d : Int) = (q : Int) := by omega
          have e8 : IntKind.u64.wrap (q : Int) = (q : Int) := by rw [IntKind.wrap_u64]; omega
          have hW30 : ¬ W3 = 0 := by omega
          have HQ : Hid (q < 18446744073709551616) := by show q < _; omega
          have HCL : Hid (∀ V, Below w3.heap.size w3 V → V.cell? ⟨g, 1, none⟩ = some (.int .u64 t1) ∧ V.cell? ⟨p, 1, none⟩ = some (.int .u64 y.sq) ∧ V.rangeAt p 2 [.bool (y.sm).g, .int .u8 (y.sm).o, .int .u8 (y.sm).p, .int .u8 (y.sm).w, .int .u16 (y.sm).q, .int .u16 (y.sm).m, .int .u16 (y.sm).t, .int .u8 (y.sm).r, .int .u8 (y.sm).l, .int .u8 (y.sm).v, .bool (y.sm).s] ∧ V.heap[p]? = some (.cells (acC y).toArray 45 (0, 0))) := fun V hV => by
            have hpV := (hV.block _ (Array.getElem?_eq_some_iff.1 HC3.out).1).trans HC3.out
            obtain ⟨B, d', -, -, k1, -, -, -⟩ := (HRP.out.rm.below hV).cells
            refine ⟨by rw [ht1]; exact k1, cell_of_row _ _ 1 _ _ _ hpV, fun j u hj => ?_, hpV⟩
            have h11 := (List.getElem?_eq_some_iff.1 hj).1
            have := range_of_row hpV (2 + j) u (by
              rw [← hj]
              unfold acC
              rw [Nat.add_comm 2 j]
              have h11 : j < 11 := h11
              rw [List.getElem?_cons_succ, List.getElem?_cons_succ]
              match j, h11 with
              | 0, _ => rfl
              | 1, _ => rfl
              | 2, _ => rfl
              | 3, _ => rfl
              | 4, _ => rfl
              | 5, _ => rfl
              | 6, _ => rfl
              | 7, _ => rfl
              | 8, _ => rfl
              | 9, _ => rfl
              | 10, _ => rfl)
            rwa [Nat.zero_add] at this
          obtain ⟨x4, hx4⟩ : ∃ x, x = smallI y.sm := ⟨_, rfl⟩
          have HIT : Hid (∀ V, Calls Try.prog 11 #[.agg #[.bool (y.sm).g, .int .u8 (y.sm).o, .int .u8 (y.sm).p, .int .u8 (y.sm).w, .int .u16 (y.sm).q, .int .u16 (y.sm).m, .int .u16 (y.sm).t, .int .u8 (y.sm).r, .int .u8 (y.sm).l, .int .u8 (y.sm).v, .bool (y.sm).s]] V (ItRet x4 V)) := fun V => by rw [hx4]; exact smallItem_any y.sm HOK.out.sm V
          have HX4 : Hid (OkI x4 ∧ x4.l.length ≤ 12) := ⟨by rw [hx4]; exact smallI_ok _ HOK.out.sm, by rw [hx4]; exact Nat.le_trans (smallI_labs _) (by decide)⟩
          clear ht1 hd hq hcnt hdW hW3 hx4
          go_upto_region 13 with fail
          go_cut [13, 14] from 62 to 75 (fun qv pv wx => ∃ (q p4 n4 c4 : Nat) (x4 : It) (A4 : Option Addr), qv = .int .u64 q ∧ pv = .pointer (some ⟨p4, 0, none⟩) ∧ Hid (q < 18446744073709551616) ∧ Hid (TK w wx s m g W i p y p4 x4 A4 n4 c4))
          case first =>
            refine wp_region_noPanic ?_
            refine wp_region_held_drew (S := fun V => Below w3.heap.size w3 V) (by kernel_rfl) ?_ (fun hHeld => ?_)
            · exact (Below.refl _ _).drew
            try simp only [heldPut, List.set]
            refine heldTake (i := 0) (v := ?_) rfl (by kernel_rfl) (by kernel_rfl) (by kernel_rfl) (fun _ _ _ h => h) (Or.inl ⟨by rfl, ?_⟩) (by assumption) ?_
            rotate_left
            · (intro V hSw; (try dsimp only at hSw); obtain ⟨f1, f2, -, -⟩ := HCL.out V hSw; go_simp; try with_reducible rfl)
            try simp only [heldPut, List.set]
            refine heldTake (i := 1) (v := ?_) rfl (by kernel_rfl) (by kernel_rfl) (by kernel_rfl) (fun _ _ _ h => h) (Or.inl ⟨by rfl, ?_⟩) (by assumption) ?_
            rotate_left
            · (intro V hSw; (try dsimp only at hSw); obtain ⟨f1, f2, -, -⟩ := HCL.out V hSw; go_simp; try with_reducible rfl)
            try simp only [heldPut, List.set]
            refine heldTake (i := 2) (v := ?_) rfl (by kernel_rfl) (by kernel_rfl) (by kernel_rfl) (fun _ _ _ h => h) (Or.inl ⟨by rfl, ?_⟩) (by assumption) ?_
            rotate_left
            · (intro V hSw; (try dsimp only at hSw); obtain ⟨f1, f2, -, -⟩ := HCL.out V hSw; go_simp; try with_reducible rfl)
            try simp only [heldPut, List.set]
            refine heldTake (i := 3) (v := ?_) rfl (by kernel_rfl) (by kernel_rfl) (by kernel_rfl) (fun _ _ _ h => h) (Or.inl ⟨by rfl, ?_⟩) (by assumption) ?_
            rotate_left
            · (intro V hSw; (try dsimp only at hSw); obtain ⟨f1, f2, -, -⟩ := HCL.out V hSw; go_simp; try with_reducible rfl)
            try simp only [heldPut, List.set]
            refine heldTake (i := 4) (v := ?_) rfl (by kernel_rfl) (by kernel_rfl) (by kernel_rfl) (fun _ _ _ h => h) (Or.inl ⟨by rfl, ?_⟩) (by assumption) ?_
            rotate_left
            · (intro V hSw; (try dsimp only at hSw); obtain ⟨f1, f2, -, -⟩ := HCL.out V hSw; go_simp; try with_reducible rfl)
            try simp only [heldPut, List.set]
            refine heldTake (i := 5) (v := ?_) rfl (by kernel_rfl) (by kernel_rfl) (by kernel_rfl) (fun _ _ _ h => h) (Or.inl ⟨by rfl, ?_⟩) (by assumption) ?_
            rotate_left
            · (intro V hSw; (try dsimp only at hSw); obtain ⟨f1, f2, -, -⟩ := HCL.out V hSw; go_simp; try with_reducible rfl)
            try simp only [heldPut, List.set]
            refine heldTake (i := 6) (v := ?_) rfl (by kernel_rfl) (by kernel_rfl) (by kernel_rfl) (fun _ _ _ h => h) (Or.inl ⟨by rfl, ?_⟩) (by assumption) ?_
            rotate_left
            · (intro V hSw; (try dsimp only at hSw); obtain ⟨f1, f2, -, -⟩ := HCL.out V hSw; go_simp; try with_reducible rfl)
            try simp only [heldPut, List.set]
            refine heldTake (i := 7) (v := ?_) rfl (by kernel_rfl) (by kernel_rfl) (by kernel_rfl) (fun _ _ _ h => h) (Or.inl ⟨by rfl, ?_⟩) (by assumption) ?_
            rotate_left
            · (intro V hSw; (try dsimp only at hSw); obtain ⟨f1, f2, -, -⟩ := HCL.out V hSw; go_simp; try with_reducible rfl)
            try simp only [heldPut, List.set]
            refine heldTake (i := 8) (v := ?_) rfl (by kernel_rfl) (by kernel_rfl) (by kernel_rfl) (fun _ _ _ h => h) (Or.inl ⟨by rfl, ?_⟩) (by assumption) ?_
            rotate_left
            · (intro V hSw; (try dsimp only at hSw); obtain ⟨f1, f2, -, -⟩ := HCL.out V hSw; go_simp; try with_reducible rfl)
            try simp only [heldPut, List.set]
            refine heldTake (i := 9) (v := ?_) rfl (by kernel_rfl) (by kernel_rfl) (by kernel_rfl) (fun _ _ _ h => h) (Or.inl ⟨by rfl, ?_⟩) (by assumption) ?_
            rotate_left
            · (intro V hSw; (try dsimp only at hSw); obtain ⟨f1, f2, -, -⟩ := HCL.out V hSw; go_simp; try with_reducible rfl)
            try simp only [heldPut, List.set]
            refine heldTake (i := 10) (v := ?_) rfl (by kernel_rfl) (by kernel_rfl) (by kernel_rfl) (fun _ _ _ h => h) (Or.inl ⟨by rfl, ?_⟩) (by assumption) ?_
            rotate_left
            · (intro V hSw; (try dsimp only at hSw); obtain ⟨f1, f2, -, -⟩ := HCL.out V hSw; go_simp; try with_reducible rfl)
            try simp only [heldPut, List.set]
            refine heldTake (i := 11) (v := ?_) rfl (by kernel_rfl) (by kernel_rfl) (by kernel_rfl) (fun _ _ _ h => h) (Or.inl ⟨by rfl, ?_⟩) (by assumption) ?_
            rotate_left
            · (intro V hSw; (try dsimp only at hSw); obtain ⟨f1, f2, -, -⟩ := HCL.out V hSw; go_simp; try with_reducible rfl)
            try simp only [heldPut, List.set]
            refine heldTake (i := 12) (v := .agg #[.bool (y.sm).g, .int .u8 (y.sm).o, .int .u8 (y.sm).p, .int .u8 (y.sm).w, .int .u16 (y.sm).q, .int .u16 (y.sm).m, .int .u16 (y.sm).t, .int .u8 (y.sm).r, .int .u8 (y.sm).l, .int .u8 (y.sm).v, .bool (y.sm).s]) rfl (by kernel_rfl) (by kernel_rfl) (by kernel_rfl) (fun _ _ _ h => h) (Or.inl ⟨by rfl, ?_⟩) (by assumption) ?_
            · (intro V hSw; exact exec_load_mid 35 _ rfl p 2 rfl _ _ (HCL.out V hSw).2.2.1 Try.underlying35 rfl (by kernel_rfl))
            try simp only [heldPut, List.set]
            refine heldTwo (i := 13) (j := 14) rfl rfl (by kernel_rfl) (fun K hK => ?gA) (fun K hK => ?gB)
            case' gA =>
              go_simp
              refine (HIT.out _).mono ?_
              rintro _ w4 ⟨A4, n4, c4, rfl, hn4, ho4, hb4⟩
              have hb34 : Below w3.heap.size w3 w4 := (Below.refl _ w3).drew.trans hb4
              have HN4 := Lib.hid hn4
              have HO4 : Hid (w4.ownsRow w3.heap.size 66 2 (.slice A4 n4 c4) n4 (cellsP x4.l)) := ho4
              have HB4 := Lib.hid hb34
              clear hn4 ho4 hb4 hb34
              go_wp2_with fail
              refine hK.out _ _ ?_ (fun hHeld => ?_)
              · exact HB4.out
              clear hK K
              try simp only [heldPut, List.set]
              obtain ⟨w5, hw5, hc5, hb5, hl5⟩ := boxZ w4
              refine heldOne (i := 14) rfl (by kernel_rfl) (fun K hK => ?_)
              go_simp
              rw [← hw5]
              obtain ⟨p4, hp4⟩ : ∃ z, z = w4.heap.size := ⟨_, rfl⟩
              rw [← hp4] at hc5 hl5 ⊢
              have HB5 := Lib.hid (HB4.out.trans (hb5.mono HB4.out.size))
              refine hK.out _ _ ?_ (fun hHeld => ?_)
              · exact HB5.out
              clear hK K
              try simp only [heldPut, List.set]
              refine heldTake (i := 15) (v := ?_) rfl (by kernel_rfl) (by kernel_rfl) (by kernel_rfl) (fun _ _ _ h => h) (Or.inl ⟨by rfl, ?_⟩) (by assumption) ?_
              rotate_left
              · (intro W hSw; (try dsimp only at hSw); go_simp; try with_reducible rfl)
              try simp only [heldPut, List.set]
              refine heldOne (i := 16) rfl (by kernel_rfl) (fun K hK => ?_)
              rw [if_pos (by rfl)]
              refine wp_store_row _ _ _ rfl p4 _ rfl rfl _ _ hc5 Try.infoI rfl (by simp [Value.oneCell']) ?_
              have hb46 : Below w4.heap.size w4 (w5.setRow p4 #[.bool x4.g, .int .u8 x4.o, .int .u64 x4.q, .int .u64 x4.t, .string x4.r, .slice A4 n4 c4, .int .u8 x4.s, .int .u8 x4.p, .int .i64 x4.v, .int .u8 x4.w, .int .u8 x4.ga, .int .u64 x4.gf, .int .u64 x4.gt]) := below_setRow hb5 (by omega) _
              have HB6 : Hid (Below w3.heap.size w3 (w5.setRow p4 #[.bool x4.g, .int .u8 x4.o, .int .u64 x4.q, .int .u64 x4.t, .string x4.r, .slice A4 n4 c4, .int .u8 x4.s, .int .u8 x4.p, .int .i64 x4.v, .int .u8 x4.w, .int .u8 x4.ga, .int .u64 x4.gf, .int .u64 x4.gt])) := HB4.out.trans (hb46.mono HB4.out.size)
              have HTK := Lib.hid (tk_end HRP.out HC3.out HB6.out HX4.out.1 HX4.out.2 HN4.out (own_below HO4.out hb46) (setRow_heap _ _ _ _ _ _ hc5) (by have := HB4.out.size; omega))
              refine hK.out _ _ ?_ (fun hHeld => ?_)
              · exact HB6.out
              clear hK K
              try simp only [heldPut, List.set]
              refine wpAnyH_done (by kernel_rfl) ?_ _
              refine NoPanic.normal ?_
              clear hw5 hc5 hb5 hl5 hp4 hb46 HB6 HB5 HB4 HO4
              go_wp2
              go_meet
              exact ⟨q, p4, n4, c4, x4, A4, rfl, rfl, HQ.out, HTK.out⟩
            case' gB =>
              obtain ⟨w4, hw4, hc4, hb4, hl4⟩ := boxZ w3
              have hw4' : w3.drew.alloc (.cells #[.bool false, .int .u8 0, .int .u64 0, .int .u64 0, .string ⟨#[]⟩, .slice none 0 0, .int .u8 0, .int .u8 0, .int .i64 0, .int .u8 0, .int .u8 0, .int .u64 0, .int .u64 0] 43) = w4.drew := by rw [hw4]; rfl
              have HB4 := Lib.hid (hb4.drew)
              have HC4 : Hid (w4.drew.heap[w3.heap.size]? = some (.cells #[.bool false, .int .u8 0, .int .u64 0, .int .u64 0, .string ⟨#[]⟩, .slice none 0 0, .int .u8 0, .int .u8 0, .int .i64 0, .int .u8 0, .int .u8 0, .int .u64 0, .int .u64 0] 43 (0, 0))) := hc4
              have HL4 : Hid (w3.heap.size < w4.drew.heap.size) := hl4
              go_simp
              first | rw [hw4'] | rw [← hw4]
              clear hw4 hc4 hb4 hl4 hw4'
              refine hK.out _ _ ?_ (fun hHeld => ?_)
              · exact HB4.out
              clear hK K
              try simp only [heldPut, List.set]
              refine heldOne (i := 13) rfl (by kernel_rfl) (fun K hK => ?_)
              go_simp
              refine (HIT.out _).mono ?_
              rintro _ w5 ⟨A4, n4, c4, rfl, hn4, ho4, hb5⟩
              have hc5 := (hb5.block _ HL4.out).trans HC4.out
              have HN4 := Lib.hid hn4
              have HO4 := Lib.hid ho4
              have HB5 := Lib.hid (HB4.out.trans (hb5.mono (Nat.le_of_lt HL4.out)))
              clear hn4 ho4 hb5
              go_wp2_with fail
              refine hK.out _ _ ?_ (fun hHeld => ?_)
              · exact HB5.out
              clear hK K
              try simp only [heldPut, List.set]
              refine heldTake (i := 15) (v := ?_) rfl (by kernel_rfl) (by kernel_rfl) (by kernel_rfl) (fun _ _ _ h => h) (Or.inl ⟨by rfl, ?_⟩) (by assumption) ?_
              rotate_left
              · (intro W hSw; (try dsimp only at hSw); go_simp; try with_reducible rfl)
              try simp only [heldPut, List.set]
              refine heldOne (i := 16) rfl (by kernel_rfl) (fun K hK => ?_)
              rw [if_pos (by rfl)]
              refine wp_store_row _ _ _ rfl w3.heap.size _ rfl rfl _ _ hc5 Try.infoI rfl (by simp [Value.oneCell']) ?_
              have HB6 : Hid (Below w3.heap.size w3 (w5.setRow w3.heap.size #[.bool x4.g, .int .u8 x4.o, .int .u64 x4.q, .int .u64 x4.t, .string x4.r, .slice A4 n4 c4, .int .u8 x4.s, .int .u8 x4.p, .int .i64 x4.v, .int .u8 x4.w, .int .u8 x4.ga, .int .u64 x4.gf, .int .u64 x4.gt])) := below_setRow HB5.out (Nat.le_refl _) _
              have HTK := Lib.hid (tk_end HRP.out HC3.out HB6.out HX4.out.1 HX4.out.2 HN4.out (ownB_mono (own_setRow HO4.out HL4.out _) (Nat.le_of_lt HL4.out)) (setRow_heap _ _ _ _ _ _ hc5) (Nat.le_refl _))
              refine hK.out _ _ ?_ (fun hHeld => ?_)
              · exact HB6.out
              clear hK K
              try simp only [heldPut, List.set]
              refine wpAnyH_done (by kernel_rfl) ?_ _
              refine NoPanic.normal ?_
              clear hc5 HB6 HB5 HB4 HO4 HC4 HL4
              go_wp2
              go_meet
              exact ⟨q, w3.heap.size, n4, c4, x4, A4, rfl, rfl, HQ.out, HTK.out⟩
          case rest =>
            obtain ⟨q4, p4, n4, c4, x5, A4, rfl, rfl, HQ4, HTK⟩ := hcut
            clear HCL HRP HC3 HBL3 HQ HX4 HIT e3 e4 e5 e6 e7 e8
            obtain ⟨bq, hbq⟩ : ∃ bq, bq = decide (1 < q4) := ⟨_, rfl⟩
            have d1 : decide ((1 : Int) < (q4 : Int)) = bq := by rw [hbq]; exact decide_eq_decide.2 (by omega)
            have d2 : decide (1 < q4) = bq := hbq.symm
            have HBQ := Lib.hid hbq
            clear hbq
            go_upto_if 77 with fail
            clear d1 d2
            go_cut [13] from 78 to 79 (fun qv wx => (∃ q : Nat, qv = .int .u64 q ∧ Hid (q < 18446744073709551616)) ∧ wx = wc)
            case first =>
              cases bq with
              | true =>
                have h1 : 1 < q4 := of_decide_eq_true HBQ.out.symm
                obtain ⟨z, hz⟩ : ∃ z, z = q4 - 1 := ⟨_, rfl⟩
                have hq4 := HQ4.out
                have e3 : (q4 : Int) - 1 = (z : Int) := by omega
                have e4 : IntKind.u64.wrap (z : Int) = (z : Int) := by rw [IntKind.wrap_u64]; omega
                have HZ : Hid (z < 18446744073709551616) := by show z < _; omega
                clear hz hq4
                go_wp2_with fail
                go_meet
                exact ⟨⟨z, rfl, HZ.out⟩, rfl⟩
              | false =>
                go_wp2_with fail
                go_meet
                exact ⟨⟨q4, rfl, HQ4.out⟩, rfl⟩
            case rest =>
              obtain ⟨⟨q5, rfl, HQ5⟩, hwc⟩ := hcut
              subst hwc
              clear HQ4 HBQ
              have c26 : wc.cell? ⟨p, 26, none⟩ = some (.bool y.raw) := by
                obtain ⟨t, o3, k, S, F, L, h⟩ := HTK.out
                exact cell_of_row _ _ 26 _ _ _ h.hp
              obtain ⟨br, hbr⟩ : ∃ br, br = y.raw := ⟨_, rfl⟩
              rw [← hbr] at c26
              clear hbr
              go_upto_if 81 with fail
              clear c26
              go_cut [13] from 82 to 85 (fun qv wx => ∃ (q n6 c6 : Nat) (x6 : It) (A6 : Option Addr), qv = .int .u64 q ∧ Hid (q < 18446744073709551616) ∧ Hid (TK w wx s m g W i p y p4 x6 A6 n6 c6))
              case first =>
                cases br with
                | true =>
                  obtain ⟨t, o3, k, S, F, L, h⟩ := HTK.out
                  have hraw := h.raw HOK.out HY12.out
                  have HRAW : Hid (TK w (wc.setRow p4 #[.bool (y.x).g, .int .u8 (y.x).o, .int .u64 (y.x).q, .int .u64 (y.x).t, .string (y.x).r, .slice y.A y.n y.c, .int .u8 (y.x).s, .int .u8 (y.x).p, .int .i64 (y.x).v, .int .u8 (y.x).w, .int .u8 (y.x).ga, .int .u64 (y.x).gf, .int .u64 (y.x).gt]) s m g W i p y p4 y.x y.A y.n y.c) := ⟨t, o3, k, S, F, L, hraw⟩
                  have HP := Lib.hid h.hp
                  have HP4 := Lib.hid h.h4
                  have HPL : Hid ((wc.setRow p4 #[.bool (y.x).g, .int .u8 (y.x).o, .int .u64 (y.x).q, .int .u64 (y.x).t, .string (y.x).r, .slice y.A y.n y.c, .int .u8 (y.x).s, .int .u8 (y.x).p, .int .i64 (y.x).v, .int .u8 (y.x).w, .int .u8 (y.x).ga, .int .u64 (y.x).gf, .int .u64 (y.x).gt]).heap[p]? = some (.cells (acC y).toArray 45 (0, 0))) := hraw.hp
                  have HSQ := Lib.hid HOK.out.sq
                  have HCP : Hid (∀ V : World, V.heap[p]? = some (.cells (acC y).toArray 45 (0, 0)) → V.cell? ⟨p, 1, none⟩ = some (.int .u64 y.sq) ∧ V.rangeAt p 13 [.bool (y.x).g, .int .u8 (y.x).o, .int .u64 (y.x).q, .int .u64 (y.x).t, .string (y.x).r, .slice y.A y.n y.c, .int .u8 (y.x).s, .int .u8 (y.x).p, .int .i64 (y.x).v, .int .u8 (y.x).w, .int .u8 (y.x).ga, .int .u64 (y.x).gf, .int .u64 (y.x).gt]) := fun V hpV => by
                    refine ⟨cell_of_row _ _ 1 _ _ _ hpV, fun j u hj => ?_⟩
                    have h13 := (List.getElem?_eq_some_iff.1 hj).1
                    have h13 : j < 13 := h13
                    have := range_of_row hpV (13 + j) u (by
                      rw [← hj]
                      match j, h13 with
                      | 0, _ => rfl
                      | 1, _ => rfl
                      | 2, _ => rfl
                      | 3, _ => rfl
                      | 4, _ => rfl
                      | 5, _ => rfl
                      | 6, _ => rfl
                      | 7, _ => rfl
                      | 8, _ => rfl
                      | 9, _ => rfl
                      | 10, _ => rfl
                      | 11, _ => rfl
                      | 12, _ => rfl)
                    rwa [Nat.zero_add] at this
                  clear h hraw HTK
                  go_upto_region 17 with fail
                  refine wp_region_noPanic ?_
                  refine wp_region_held_drew (S := fun V => V.heap[p]? = some (.cells (acC y).toArray 45 (0, 0))) (by kernel_rfl) ?_ (fun hHeld => ?_)
                  · exact HP.out
                  try simp only [heldPut, List.set]
                  refine heldTake (i := 0) (v := ?_) rfl (by kernel_rfl) (by kernel_rfl) (by kernel_rfl) (fun _ _ _ h => h) (Or.inl ⟨by rfl, ?_⟩) (by assumption) ?_
                  rotate_left
                  · (intro V hSw; (try dsimp only at hSw); have f1 := (HCP.out V hSw).1; go_simp; try with_reducible rfl)
                  try simp only [heldPut, List.set]
                  refine heldTake (i := 1) (v := ?_) rfl (by kernel_rfl) (by kernel_rfl) (by kernel_rfl) (fun _ _ _ h => h) (Or.inl ⟨by rfl, ?_⟩) (by assumption) ?_
                  rotate_left
                  · (intro V hSw; (try dsimp only at hSw); have f1 := (HCP.out V hSw).1; go_simp; try with_reducible rfl)
                  try simp only [heldPut, List.set]
                  refine heldTake (i := 2) (v := ?_) rfl (by kernel_rfl) (by kernel_rfl) (by kernel_rfl) (fun _ _ _ h => h) (Or.inl ⟨by rfl, ?_⟩) (by assumption) ?_
                  rotate_left
                  · (intro V hSw; (try dsimp only at hSw); have f1 := (HCP.out V hSw).1; go_simp; try with_reducible rfl)
                  try simp only [heldPut, List.set]
                  refine heldTake (i := 3) (v := .agg #[.bool (y.x).g, .int .u8 (y.x).o, .int .u64 (y.x).q, .int .u64 (y.x).t, .string (y.x).r, .slice y.A y.n y.c, .int .u8 (y.x).s, .int .u8 (y.x).p, .int .i64 (y.x).v, .int .u8 (y.x).w, .int .u8 (y.x).ga, .int .u64 (y.x).gf, .int .u64 (y.x).gt]) rfl (by kernel_rfl) (by kernel_rfl) (by kernel_rfl) (fun _ _ _ h => h) (Or.inl ⟨by rfl, ?_⟩) (by assumption) ?_
                  · (intro V hSw; exact exec_load_mid 43 _ rfl p 13 rfl _ _ (HCP.out V hSw).2 Try.underlying43 rfl Try.infoIt)
                  try simp only [heldPut, List.set]
                  refine heldTake (i := 4) (v := ?_) rfl (by kernel_rfl) (by kernel_rfl) (by kernel_rfl) (fun _ _ _ h => h) (Or.inl ⟨by rfl, ?_⟩) (by assumption) ?_
                  rotate_left
                  · (intro W hSw; (try dsimp only at hSw); go_simp; try with_reducible rfl)
                  try simp only [heldPut, List.set]
                  refine heldOne (i := 5) rfl (by kernel_rfl) (fun K hK => ?_)
                  rw [if_pos (by rfl)]
                  refine wp_store_row _ _ _ rfl p4 _ rfl rfl _ _ (show wc.drew.heap[p4]? = _ from HP4.out) Try.infoI rfl (by simp [Value.oneCell']) ?_
                  have hdr : wc.drew.setRow p4 #[.bool (y.x).g, .int .u8 (y.x).o, .int .u64 (y.x).q, .int .u64 (y.x).t, .string (y.x).r, .slice y.A y.n y.c, .int .u8 (y.x).s, .int .u8 (y.x).p, .int .i64 (y.x).v, .int .u8 (y.x).w, .int .u8 (y.x).ga, .int .u64 (y.x).gf, .int .u64 (y.x).gt] = (wc.setRow p4 #[.bool (y.x).g, .int .u8 (y.x).o, .int .u64 (y.x).q, .int .u64 (y.x).t, .string (y.x).r, .slice y.A y.n y.c, .int .u8 (y.x).s, .int .u8 (y.x).p, .int .i64 (y.x).v, .int .u8 (y.x).w, .int .u8 (y.x).ga, .int .u64 (y.x).gf, .int .u64 (y.x).gt]).drew := rfl
                  rw [hdr]
                  clear hdr
                  obtain ⟨w7, hw7⟩ : ∃ z, z = wc.setRow p4 #[.bool (y.x).g, .int .u8 (y.x).o, .int .u64 (y.x).q, .int .u64 (y.x).t, .string (y.x).r, .slice y.A y.n y.c, .int .u8 (y.x).s, .int .u8 (y.x).p, .int .i64 (y.x).v, .int .u8 (y.x).w, .int .u8 (y.x).ga, .int .u64 (y.x).gf, .int .u64 (y.x).gt] := ⟨_, rfl⟩
                  rw [← hw7] at HRAW HPL ⊢
                  have HT7 : Hid (TK w w7.drew s m g W i p y p4 y.x y.A y.n y.c) := by
                    obtain ⟨t, o3, k, S, F, L, h⟩ := HRAW.out
                    exact ⟨t, o3, k, S, F, L, h.rp.below ((Below.refl _ _).drew), h.xo.below ((Below.refl _ _).drew), h.hp, h.h4, h.lo, h.fr, h.fF, h.fL⟩
                  clear hw7 HRAW HP HP4
                  refine hK.out _ _ ?_ (fun hHeld => ?_)
                  · exact HPL.out
                  clear hK K
                  try simp only [heldPut, List.set]
                  refine wpAnyH_done (by kernel_rfl) ?_ _
                  refine NoPanic.normal ?_
                  clear hHeld HCP HPL
                  go_wp2
                  go_meet
                  exact ⟨y.sq, y.n, y.c, y.x, y.A, rfl, HSQ.out, HT7.out⟩
                | false =>
                  go_wp2_with fail
                  go_meet
                  exact ⟨q5, n4, c4, x5, A4, rfl, HQ5.out, HTK.out⟩
              case rest =>
                obtain ⟨q6, n6, c6, x6, A6, rfl, HQ6, HTK6⟩ := hcut
                clear HTK HQ5
                obtain ⟨t, o3, k, S, F, L, h⟩ := HTK6.out
                have HT := Lib.hid (rp_take (q := q6) (x := x6) (A := A6) (N := n6) (c := c6) (h.rp.below ((Below.refl _ wc).drew)) (h.xo.below ((Below.refl _ wc).drew)) HQ6.out (by omega))
                have H4 : Hid (wc.drew.heap[p4]? = some (.cells #[.bool x6.g, .int .u8 x6.o, .int .u64 x6.q, .int .u64 x6.t, .string x6.r, .slice A6 n6 c6, .int .u8 x6.s, .int .u8 x6.p, .int .i64 x6.v, .int .u8 x6.w, .int .u8 x6.ga, .int .u64 x6.gf, .int .u64 x6.gt] 43 (0, 0))) := h.h4
                have HFR := Lib.hid h.fr
                clear h HTK6
                go_upto_region 18 with fail
                refine wp_region_noPanic ?_
                refine wp_region_held_drew (S := fun V => V.heap[p4]? = some (.cells #[.bool x6.g, .int .u8 x6.o, .int .u64 x6.q, .int .u64 x6.t, .string x6.r, .slice A6 n6 c6, .int .u8 x6.s, .int .u8 x6.p, .int .i64 x6.v, .int .u8 x6.w, .int .u8 x6.ga, .int .u64 x6.gf, .int .u64 x6.gt] 43 (0, 0))) (by kernel_rfl) ?_ (fun hHeld => ?_)
                · exact H4.out
                try simp only [heldPut, List.set]
                refine heldTake (i := 0) (v := ?_) rfl (by kernel_rfl) (by kernel_rfl) (by kernel_rfl) (fun _ _ _ h => h) (Or.inl ⟨by rfl, ?_⟩) (by assumption) ?_
                rotate_left
                · (intro W hSw; (try dsimp only at hSw); go_simp; try with_reducible rfl)
                try simp only [heldPut, List.set]
                refine heldTake (i := 1) (v := ?_) rfl (by kernel_rfl) (by kernel_rfl) (by kernel_rfl) (fun _ _ _ h => h) (Or.inl ⟨by rfl, ?_⟩) (by assumption) ?_
                rotate_left
                · (intro W hSw; (try dsimp only at hSw); go_simp; try with_reducible rfl)
                try simp only [heldPut, List.set]
                refine heldTake (i := 2) (v := .agg #[.bool x6.g, .int .u8 x6.o, .int .u64 x6.q, .int .u64 x6.t, .string x6.r, .slice A6 n6 c6, .int .u8 x6.s, .int .u8 x6.p, .int .i64 x6.v, .int .u8 x6.w, .int .u8 x6.ga, .int .u64 x6.gf, .int .u64 x6.gt]) rfl (by kernel_rfl) (by kernel_rfl) (by kernel_rfl) (fun _ _ _ h => h) (Or.inl ⟨by rfl, ?_⟩) (by assumption) ?_
                · (intro V hSw; exact exec_load_row 43 _ rfl p4 rfl _ _ _ _ hSw Try.underlying43 rfl Try.infoIt)
                try simp only [heldPut, List.set]
                refine heldTake (i := 4) (v := ?_) rfl (by kernel_rfl) (by kernel_rfl) (by kernel_rfl) (fun _ _ _ h => h) (Or.inl ⟨by rfl, ?_⟩) (by assumption) ?_
                rotate_left
                · (intro W hSw; (try dsimp only at hSw); go_simp; try with_reducible rfl)
                try simp only [heldPut, List.set]
                refine heldTake (i := 5) (v := ?_) rfl (by kernel_rfl) (by kernel_rfl) (by kernel_rfl) (fun _ _ _ h => h) (Or.inl ⟨by rfl, ?_⟩) (by assumption) ?_
                rotate_left
                · (intro W hSw; (try dsimp only at hSw); go_simp; try with_reducible rfl)
                try simp only [heldPut, List.set]
                refine heldTake (i := 6) (v := .agg #[.bool x6.g, .int .u8 x6.o, .int .u64 x6.q, .int .u64 x6.t, .string x6.r, .slice A6 n6 c6, .int .u8 x6.s, .int .u8 x6.p, .int .i64 x6.v, .int .u8 x6.w, .int .u8 x6.ga, .int .u64 x6.gf, .int .u64 x6.gt]) rfl (by kernel_rfl) (by kernel_rfl) (by kernel_rfl) (fun _ _ _ h => h) (Or.inl ⟨by rfl, ?_⟩) (by assumption) ?_
                · (intro V hSw; exact exec_load_row 43 _ rfl p4 rfl _ _ _ _ hSw Try.underlying43 rfl Try.infoIt)
                try simp only [heldPut, List.set]
                refine heldOne (i := 3) rfl (by kernel_rfl) (fun K hK => ?_)
                go_simp
                refine HT.out.mono ?_
                rintro _ w7 ⟨z, rfl, hbl7, ho7, hc7⟩
                have H7 := Lib.hid (only_two_row ho7 H4.out (fun e => HFR.out.2 (.inl e)) (fun e => HFR.out.2 (.inr e)))
                have HM := Lib.hid (hc7 w7 (Below.refl _ _))
                clear hbl7 ho7 hc7 HT H4
                go_wp2_with fail
                refine hK.out _ _ ?_ (fun hHeld => ?_)
                · exact H7.out
                clear hK K
                try simp only [heldPut, List.set]
                refine heldOne (i := 7) rfl (by kernel_rfl) (fun K hK => ?_)
                go_simp
                refine HM.out.mono ?_
                rintro _ w8 ⟨rfl, h8, ho8⟩
                have H8 := Lib.hid ((ho8.block p4 (Array.getElem?_eq_some_iff.1 H7.out).1 HFR.out.1).trans H7.out)
                have HR8 := Lib.hid h8
                clear h8 ho8 HM H7
                go_wp2_with fail
                refine hK.out _ _ ?_ (fun hHeld => ?_)
                · exact H8.out
                clear hK K
                try simp only [heldPut, List.set]
                refine heldTake (i := 8) (v := ?_) rfl (by kernel_rfl) (by kernel_rfl) (by kernel_rfl) (fun _ _ _ h => h) (Or.inl ⟨by rfl, ?_⟩) (by assumption) ?_
                rotate_left
                · (intro W hSw; (try dsimp only at hSw); go_simp; try with_reducible rfl)
                try simp only [heldPut, List.set]
                refine heldTake (i := 9) (v := ?_) rfl (by kernel_rfl) (by kernel_rfl) (by kernel_rfl) (fun _ _ _ h => h) (Or.inl ⟨by rfl, ?_⟩) (by assumption) ?_
                rotate_left
                · (intro W hSw; (try dsimp only at hSw); go_simp; try with_reducible rfl)
                try simp only [heldPut, List.set]
                refine wpAnyH_done (by kernel_rfl) ?_ _
                refine NoPanic.normal ?_
                clear hHeld H8
                go_wp2
                go_meet
                exact ⟨z, rfl, rfl, HR8.out⟩
      case rest =>
        obtain ⟨z, rfl, rfl, HB4⟩ := hcut
        obtain ⟨t, o3, k, S, F, L, h⟩ := HB4.out
        have hkl := h.len
        subst hkl
        have hfew := h.few
        have HW64 := Lib.hid h.W64
        have hcnt := h.cnt
        obtain ⟨t1, ht1⟩ : ∃ z, z = t + 1 := ⟨_, rfl⟩
        obtain ⟨n, hn⟩ : ∃ n, n = L.length := ⟨_, rfl⟩
        rw [← hn] at h hfew
        have HRP := Lib.hid h
        have HT1 := Lib.hid ht1
        have HNL := Lib.hid hn
        obtain ⟨bz, hbz⟩ : ∃ z, z = bitsN (heldB F t1) (W - 1) := ⟨_, rfl⟩
        have HBZ := Lib.hid hbz
        have e3 : (t1 : Int) - 1 = (t : Int) := by omega
        have e4 : IntKind.u64.wrap (t : Int) = (t : Int) := by rw [IntKind.wrap_u64]; omega
        have dW : decide ((W : Int) < (n : Int)) = false := decide_eq_false (by omega)
        have dW2 : decide (W < n) = false := decide_eq_false (by omega)
        clear h HB4 HB3 HOK HC3 HBL3 HLP HY12 hfew hn hbz
        cases hF : F t1 with
        | none =>
          have HPK := Lib.hid (rpeek_none wc HRP.out.rv ht1 (show t ≤ _ by omega) hF)
          have hpos := HRP.out.ag.none hF
          have HPO := Lib.hid hpos
          clear hF hpos ht1
          go_wp2_with fail
          refine HPK.out.mono ?_
          rintro _ w7 ⟨rfl, hb7⟩
          have HB7 := Lib.hid hb7
          clear hb7 HPK
          go_upto_region 22 with (first | (refine wpList_store_row rfl _ _ _ rfl w7.heap.size #[.bool false, .int .u8 0, .int .u64 0, .int .u64 0, .string ⟨#[]⟩, .slice none 0 0, .int .u8 0, .int .u8 0, .int .i64 0, .int .u8 0, .int .u8 0, .int .u64 0, .int .u64 0] rfl rfl _ _ (heap_alloc_new _ _) Try.infoIt rfl (by simp [Value.oneCell']) ?_) | fail)
          obtain ⟨w8, hw8, -, hb8, -⟩ := boxI w7 #[.bool false, .int .u8 0, .int .u64 0, .int .u64 0, .string ⟨#[]⟩, .slice none 0 0, .int .u8 0, .int .u8 0, .int .i64 0, .int .u8 0, .int .u8 0, .int .u64 0, .int .u64 0] #[.bool false, .int .u8 0, .int .u64 0, .int .u64 0, .string ⟨#[]⟩, .slice none 0 0, .int .u8 0, .int .u8 0, .int .i64 0, .int .u8 0, .int .u8 0, .int .u64 0, .int .u64 0]
          rw [← hw8]
          have HR8 := Lib.hid ((HRP.out.below HB7.out).below hb8)
          clear hw8 hb8 HB7 HRP
          have k1 : w8.cell? ⟨g, 1, none⟩ = some (.int .u64 t1) := by
            obtain ⟨B8, d8, -, -, k1, -, -, -⟩ := HR8.out.rm.cells
            rw [HT1.out]; exact k1
          have HF8 := mfind_any t1 w8 HR8.out.rm
          rw [posZ_none HPO.out] at HF8
          have HF8 := Lib.hid HF8
          go_wp2_with fail
          refine HF8.out.mono ?_
          rintro _ w9 ⟨rfl, hb9⟩
          have HR9 := Lib.hid (HR8.out.below hb9)
          have HAK := rack_any w9 HR9.out.rv HT1.out (show t ≤ _ by omega) HW64.out.1 HW64.out.2
          rw [← HBZ.out] at HAK
          have HAK := Lib.hid HAK
          have HB9 := Lib.hid hb9
          clear hb9 HF8 HR8 k1
          go_wp2_with fail
          refine HAK.out.mono ?_
          rintro _ w10 ⟨rfl, hb10⟩
          have HR10 := Lib.hid (HR9.out.below hb10)
          have HB10 := Lib.hid (HB9.out.trans (hb10.mono HB9.out.size))
          have HCT := Lib.hid (rcounts_any w10 HR10.out.rv HT1.out (show t ≤ _ by omega))
          clear hb10 HAK HR9 HB9
          go_wp2_with fail
          refine HCT.out.mono ?_
          rintro _ w11 ⟨rfl, hb11⟩
          have HR11 := Lib.hid (HR10.out.below hb11)
          have HB11 := Lib.hid (HB10.out.trans (hb11.mono HB10.out.size))
          clear hb11 HCT HR10 HB10
          obtain ⟨B, d, hrr, -, m1, m2, m3, -⟩ := HR11.out.rm.cells
          rw [← HNL.out] at hrr m3
          have HCE : Hid (∀ V, Below w11.heap.size w11 V → V.cell? ⟨g, 1, none⟩ = some (.int .u64 t1) ∧ V.cell? ⟨g, 2, none⟩ = some (.int .u64 o3) ∧ V.cell? ⟨g, 3, none⟩ = some (.slice B n d)) := fun V hV => by
            have hgl := HR11.out.rm.lt g HR11.out.rm.sS
            exact ⟨by rw [HT1.out]; exact (hV.cell (p := ⟨g, 1, none⟩) hgl).trans m1, (hV.cell (p := ⟨g, 2, none⟩) hgl).trans m2, (hV.cell (p := ⟨g, 3, none⟩) hgl).trans m3⟩
          have HBT : Hid (∀ V, Below w11.heap.size w11 V → Calls Try.prog 19 #[.pointer (some ⟨g, 0, none⟩)] V fun e w' => e = .returned (.int .u64 bz) ∧ Below V.heap.size V w') := fun V hV => by
            have h1 := mbits_any V (HR11.out.below hV).rm (show t + 1 ≤ _ by omega)
            have h2 := rp_bits (HR11.out.below hV)
            show Calls _ _ _ _ _
            rw [HBZ.out, HT1.out, ← h2]
            exact h1
          clear hrr m1 m2 m3
          go_upto_region 25 with fail
          refine wp_region_noPanic ?_
          refine wp_region_held_drew (S := fun V => Below w11.heap.size w11 V) (by kernel_rfl) ?_ (fun hHeld => ?_)
          · exact (Below.refl _ _).drew
          try simp only [heldPut, List.set]
          refine heldTake (i := 0) (v := ?_) rfl (by kernel_rfl) (by kernel_rfl) (by kernel_rfl) (fun _ _ _ h => h) (Or.inl ⟨by rfl, ?_⟩) (by assumption) ?_
          rotate_left
          · (intro W hSw; (try dsimp only at hSw); go_simp; try with_reducible rfl)
          try simp only [heldPut, List.set]
          refine heldTake (i := 1) (v := ?_) rfl (by kernel_rfl) (by kernel_rfl) (by kernel_rfl) (fun _ _ _ h => h) (Or.inl ⟨by rfl, ?_⟩) (by assumption) ?_
          rotate_left
          · (intro W hSw; (try dsimp only at hSw); go_simp; try with_reducible rfl)
          try simp only [heldPut, List.set]
          refine heldTake (i := 2) (v := ?_) rfl (by kernel_rfl) (by kernel_rfl) (by kernel_rfl) (fun _ _ _ h => h) (Or.inl ⟨by rfl, ?_⟩) (by assumption) ?_
          rotate_left
          · (intro W hSw; (try dsimp only at hSw); go_simp; try with_reducible rfl)
          try simp only [heldPut, List.set]
          refine heldTake (i := 3) (v := ?_) rfl (by kernel_rfl) (by kernel_rfl) (by kernel_rfl) (fun _ _ _ h => h) (Or.inl ⟨by rfl, ?_⟩) (by assumption) ?_
          rotate_left
          · (intro W hSw; (try dsimp only at hSw); go_simp; try with_reducible rfl)
          try simp only [heldPut, List.set]
          refine heldTake (i := 4) (v := ?_) rfl (by kernel_rfl) (by kernel_rfl) (by kernel_rfl) (fun _ _ _ h => h) (Or.inl ⟨by rfl, ?_⟩) (by assumption) ?_
          rotate_left
          · (intro W hSw; (try dsimp only at hSw); go_simp; try with_reducible rfl)
          try simp only [heldPut, List.set]
          refine heldTake (i := 5) (v := ?_) rfl (by kernel_rfl) (by kernel_rfl) (by kernel_rfl) (fun _ _ _ h => h) (Or.inl ⟨by rfl, ?_⟩) (by assumption) ?_
          rotate_left
          · (intro W hSw; (try dsimp only at hSw); go_simp; try with_reducible rfl)
          try simp only [heldPut, List.set]
          refine heldTake (i := 6) (v := ?_) rfl (by kernel_rfl) (by kernel_rfl) (by kernel_rfl) (fun _ _ _ h => h) (Or.inl ⟨by rfl, ?_⟩) (by assumption) ?_
          rotate_left
          · (intro W hSw; (try dsimp only at hSw); go_simp; try with_reducible rfl)
          try simp only [heldPut, List.set]
          refine heldTake (i := 7) (v := undef) rfl (by kernel_rfl) (by kernel_rfl) (by kernel_rfl) (fun _ _ _ h => h) (Or.inr ⟨by rfl, rfl⟩) (by assumption) ?_
          try simp only [heldPut, List.set]
          refine heldTake (i := 8) (v := undef) rfl (by kernel_rfl) (by kernel_rfl) (by kernel_rfl) (fun _ _ _ h => h) (Or.inr ⟨by rfl, rfl⟩) (by assumption) ?_
          try simp only [heldPut, List.set]
          refine heldTake (i := 9) (v := undef) rfl (by kernel_rfl) (by kernel_rfl) (by kernel_rfl) (fun _ _ _ h => h) (Or.inr ⟨by rfl, rfl⟩) (by assumption) ?_
          try simp only [heldPut, List.set]
          refine heldTake (i := 10) (v := undef) rfl (by kernel_rfl) (by kernel_rfl) (by kernel_rfl) (fun _ _ _ h => h) (Or.inr ⟨by rfl, rfl⟩) (by assumption) ?_
          try simp only [heldPut, List.set]
          refine heldTake (i := 11) (v := undef) rfl (by kernel_rfl) (by kernel_rfl) (by kernel_rfl) (fun _ _ _ h => h) (Or.inr ⟨by rfl, rfl⟩) (by assumption) ?_
          try simp only [heldPut, List.set]
          refine heldTake (i := 12) (v := undef) rfl (by kernel_rfl) (by kernel_rfl) (by kernel_rfl) (fun _ _ _ h => h) (Or.inr ⟨by rfl, rfl⟩) (by assumption) ?_
          try simp only [heldPut, List.set]
          refine heldTake (i := 13) (v := undef) rfl (by kernel_rfl) (by kernel_rfl) (by kernel_rfl) (fun _ _ _ h => h) (Or.inr ⟨by rfl, rfl⟩) (by assumption) ?_
          try simp only [heldPut, List.set]
          refine heldTake (i := 14) (v := undef) rfl (by kernel_rfl) (by kernel_rfl) (by kernel_rfl) (fun _ _ _ h => h) (Or.inr ⟨by rfl, rfl⟩) (by assumption) ?_
          try simp only [heldPut, List.set]
          refine heldTake (i := 15) (v := undef) rfl (by kernel_rfl) (by kernel_rfl) (by kernel_rfl) (fun _ _ _ h => h) (Or.inr ⟨by rfl, rfl⟩) (by assumption) ?_
          try simp only [heldPut, List.set]
          refine heldTake (i := 16) (v := undef) rfl (by kernel_rfl) (by kernel_rfl) (by kernel_rfl) (fun _ _ _ h => h) (Or.inr ⟨by rfl, rfl⟩) (by assumption) ?_
          try simp only [heldPut, List.set]
          refine heldTake (i := 17) (v := undef) rfl (by kernel_rfl) (by kernel_rfl) (by kernel_rfl) (fun _ _ _ h => h) (Or.inr ⟨by rfl, rfl⟩) (by assumption) ?_
          try simp only [heldPut, List.set]
          refine heldTake (i := 18) (v := ?_) rfl (by kernel_rfl) (by kernel_rfl) (by kernel_rfl) (fun _ _ _ h => h) (Or.inl ⟨by rfl, ?_⟩) (by assumption) ?_
          rotate_left
          · (intro W hSw; (try dsimp only at hSw); go_simp; try with_reducible rfl)
          try simp only [heldPut, List.set]
          refine heldTake (i := 19) (v := ?_) rfl (by kernel_rfl) (by kernel_rfl) (by kernel_rfl) (fun _ _ _ h => h) (Or.inl ⟨by rfl, ?_⟩) (by assumption) ?_
          rotate_left
          · (intro W hSw; (try dsimp only at hSw); go_simp; try with_reducible rfl)
          try simp only [heldPut, List.set]
          refine heldTake (i := 20) (v := ?_) rfl (by kernel_rfl) (by kernel_rfl) (by kernel_rfl) (fun _ _ _ h => h) (Or.inl ⟨by rfl, ?_⟩) (by assumption) ?_
          rotate_left
          · (intro W hSw; (try dsimp only at hSw); go_simp; try with_reducible rfl)
          try simp only [heldPut, List.set]
          obtain ⟨w12, hw12⟩ : ∃ z, z = w11.drew := ⟨_, rfl⟩
          rw [← hw12] at hHeld ⊢
          have HB12 : Hid (Below w11.heap.size w11 w12) := hHeld
          clear hw12
          refine heldTake (i := 21) (v := ?_) rfl (by kernel_rfl) (by kernel_rfl) (by kernel_rfl) (fun _ _ _ h => h) (Or.inl ⟨by rfl, ?_⟩) (by assumption) ?_
          rotate_left
          · (intro V hSw; (try dsimp only at hSw); obtain ⟨f1, f2, f3⟩ := HCE.out V hSw; go_simp; try with_reducible rfl)
          try simp only [heldPut, List.set]
          refine heldTake (i := 22) (v := ?_) rfl (by kernel_rfl) (by kernel_rfl) (by kernel_rfl) (fun _ _ _ h => h) (Or.inl ⟨by rfl, ?_⟩) (by assumption) ?_
          rotate_left
          · (intro V hSw; (try dsimp only at hSw); obtain ⟨f1, f2, f3⟩ := HCE.out V hSw; go_simp; try with_reducible rfl)
          try simp only [heldPut, List.set]
          refine heldTake (i := 23) (v := ?_) rfl (by kernel_rfl) (by kernel_rfl) (by kernel_rfl) (fun _ _ _ h => h) (Or.inl ⟨by rfl, ?_⟩) (by assumption) ?_
          rotate_left
          · (intro V hSw; (try dsimp only at hSw); obtain ⟨f1, f2, f3⟩ := HCE.out V hSw; go_simp; try with_reducible rfl)
          try simp only [heldPut, List.set]
          refine heldTake (i := 24) (v := ?_) rfl (by kernel_rfl) (by kernel_rfl) (by kernel_rfl) (fun _ _ _ h => h) (Or.inl ⟨by rfl, ?_⟩) (by assumption) ?_
          rotate_left
          · (intro V hSw; (try dsimp only at hSw); obtain ⟨f1, f2, f3⟩ := HCE.out V hSw; go_simp; try with_reducible rfl)
          try simp only [heldPut, List.set]
          refine heldTake (i := 25) (v := ?_) rfl (by kernel_rfl) (by kernel_rfl) (by kernel_rfl) (fun _ _ _ h => h) (Or.inl ⟨by rfl, ?_⟩) (by assumption) ?_
          rotate_left
          · (intro V hSw; (try dsimp only at hSw); obtain ⟨f1, f2, f3⟩ := HCE.out V hSw; go_simp; try with_reducible rfl)
          try simp only [heldPut, List.set]
          refine heldTake (i := 26) (v := ?_) rfl (by kernel_rfl) (by kernel_rfl) (by kernel_rfl) (fun _ _ _ h => h) (Or.inl ⟨by rfl, ?_⟩) (by assumption) ?_
          rotate_left
          · (intro V hSw; (try dsimp only at hSw); obtain ⟨f1, f2, f3⟩ := HCE.out V hSw; go_simp; try with_reducible rfl)
          try simp only [heldPut, List.set]
          refine heldTake (i := 27) (v := ?_) rfl (by kernel_rfl) (by kernel_rfl) (by kernel_rfl) (fun _ _ _ h => h) (Or.inl ⟨by rfl, ?_⟩) (by assumption) ?_
          rotate_left
          · (intro V hSw; (try dsimp only at hSw); obtain ⟨f1, f2, f3⟩ := HCE.out V hSw; go_simp; try with_reducible rfl)
          try simp only [heldPut, List.set]
          refine heldTake (i := 28) (v := ?_) rfl (by kernel_rfl) (by kernel_rfl) (by kernel_rfl) (fun _ _ _ h => h) (Or.inl ⟨by rfl, ?_⟩) (by assumption) ?_
          rotate_left
          · (intro V hSw; (try dsimp only at hSw); obtain ⟨f1, f2, f3⟩ := HCE.out V hSw; go_simp; try with_reducible rfl)
          try simp only [heldPut, List.set]
          refine heldTake (i := 29) (v := ?_) rfl (by kernel_rfl) (by kernel_rfl) (by kernel_rfl) (fun _ _ _ h => h) (Or.inl ⟨by rfl, ?_⟩) (by assumption) ?_
          rotate_left
          · (intro V hSw; (try dsimp only at hSw); obtain ⟨f1, f2, f3⟩ := HCE.out V hSw; go_simp; try with_reducible rfl)
          try simp only [heldPut, List.set]
          refine heldTake (i := 30) (v := ?_) rfl (by kernel_rfl) (by kernel_rfl) (by kernel_rfl) (fun _ _ _ h => h) (Or.inl ⟨by rfl, ?_⟩) (by assumption) ?_
          rotate_left
          · (intro V hSw; (try dsimp only at hSw); obtain ⟨f1, f2, f3⟩ := HCE.out V hSw; go_simp; try with_reducible rfl)
          try simp only [heldPut, List.set]
          refine heldTake (i := 31) (v := ?_) rfl (by kernel_rfl) (by kernel_rfl) (by kernel_rfl) (fun _ _ _ h => h) (Or.inl ⟨by rfl, ?_⟩) (by assumption) ?_
          rotate_left
          · (intro V hSw; (try dsimp only at hSw); obtain ⟨f1, f2, f3⟩ := HCE.out V hSw; go_simp; try with_reducible rfl)
          try simp only [heldPut, List.set]
          refine heldOne (i := 32) rfl (by kernel_rfl) (fun K hK => ?_)
          go_simp
          refine (HBT.out _ HB12.out).mono ?_
          rintro _ w13 ⟨rfl, hb13⟩
          have HB13 := Lib.hid (HB12.out.trans (hb13.mono HB12.out.size))
          clear hb13 HBT
          go_wp2_with fail
          refine hK.out _ _ ?_ (fun hHeld => ?_)
          · exact HB13.out
          clear hK K
          try simp only [heldPut, List.set]
          refine heldTake (i := 33) (v := ?_) rfl (by kernel_rfl) (by kernel_rfl) (by kernel_rfl) (fun _ _ _ h => h) (Or.inl ⟨by rfl, ?_⟩) (by assumption) ?_
          rotate_left
          · (intro V hSw; (try dsimp only at hSw); obtain ⟨f1, f2, f3⟩ := HCE.out V hSw; go_simp; try with_reducible rfl)
          try simp only [heldPut, List.set]
          refine heldTake (i := 34) (v := ?_) rfl (by kernel_rfl) (by kernel_rfl) (by kernel_rfl) (fun _ _ _ h => h) (Or.inl ⟨by rfl, ?_⟩) (by assumption) ?_
          rotate_left
          · (intro V hSw; (try dsimp only at hSw); obtain ⟨f1, f2, f3⟩ := HCE.out V hSw; go_simp; try with_reducible rfl)
          try simp only [heldPut, List.set]
          refine heldTake (i := 35) (v := ?_) rfl (by kernel_rfl) (by kernel_rfl) (by kernel_rfl) (fun _ _ _ h => h) (Or.inl ⟨by rfl, ?_⟩) (by assumption) ?_
          rotate_left
          · (intro V hSw; (try dsimp only at hSw); obtain ⟨f1, f2, f3⟩ := HCE.out V hSw; go_simp; try with_reducible rfl)
          try simp only [heldPut, List.set]
          refine heldTake (i := 36) (v := ?_) rfl (by kernel_rfl) (by kernel_rfl) (by kernel_rfl) (fun _ _ _ h => h) (Or.inl ⟨by rfl, ?_⟩) (by assumption) ?_
          rotate_left
          · (intro V hSw; (try dsimp only at hSw); obtain ⟨f1, f2, f3⟩ := HCE.out V hSw; go_simp; try with_reducible rfl)
          try simp only [heldPut, List.set]
          refine heldTake (i := 37) (v := ?_) rfl (by kernel_rfl) (by kernel_rfl) (by kernel_rfl) (fun _ _ _ h => h) (Or.inl ⟨by rfl, ?_⟩) (by assumption) ?_
          rotate_left
          · (intro V hSw; (try dsimp only at hSw); obtain ⟨f1, f2, f3⟩ := HCE.out V hSw; go_simp; try with_reducible rfl)
          try simp only [heldPut, List.set]
          refine heldTake (i := 38) (v := ?_) rfl (by kernel_rfl) (by kernel_rfl) (by kernel_rfl) (fun _ _ _ h => h) (Or.inl ⟨by rfl, ?_⟩) (by assumption) ?_
          rotate_left
          · (intro V hSw; (try dsimp only at hSw); obtain ⟨f1, f2, f3⟩ := HCE.out V hSw; go_simp; try with_reducible rfl)
          try simp only [heldPut, List.set]
          refine heldTake (i := 39) (v := ?_) rfl (by kernel_rfl) (by kernel_rfl) (by kernel_rfl) (fun _ _ _ h => h) (Or.inl ⟨by rfl, ?_⟩) (by assumption) ?_
          rotate_left
          · (intro V hSw; (try dsimp only at hSw); obtain ⟨f1, f2, f3⟩ := HCE.out V hSw; go_simp; try with_reducible rfl)
          try simp only [heldPut, List.set]
          refine heldTake (i := 40) (v := ?_) rfl (by kernel_rfl) (by kernel_rfl) (by kernel_rfl) (fun _ _ _ h => h) (Or.inl ⟨by rfl, ?_⟩) (by assumption) ?_
          rotate_left
          · (intro V hSw; (try dsimp only at hSw); obtain ⟨f1, f2, f3⟩ := HCE.out V hSw; go_simp; try with_reducible rfl)
          try simp only [heldPut, List.set]
          refine heldTake (i := 41) (v := ?_) rfl (by kernel_rfl) (by kernel_rfl) (by kernel_rfl) (fun _ _ _ h => h) (Or.inl ⟨by rfl, ?_⟩) (by assumption) ?_
          rotate_left
          · (intro V hSw; (try dsimp only at hSw); obtain ⟨f1, f2, f3⟩ := HCE.out V hSw; go_simp; try with_reducible rfl)
          try simp only [heldPut, List.set]
          refine heldTake (i := 42) (v := ?_) rfl (by kernel_rfl) (by kernel_rfl) (by kernel_rfl) (fun _ _ _ h => h) (Or.inl ⟨by rfl, ?_⟩) (by assumption) ?_
          rotate_left
          · (intro V hSw; (try dsimp only at hSw); obtain ⟨f1, f2, f3⟩ := HCE.out V hSw; go_simp; try with_reducible rfl)
          try simp only [heldPut, List.set]
          refine heldTake (i := 43) (v := ?_) rfl (by kernel_rfl) (by kernel_rfl) (by kernel_rfl) (fun _ _ _ h => h) (Or.inl ⟨by rfl, ?_⟩) (by assumption) ?_
          rotate_left
          · (intro V hSw; (try dsimp only at hSw); obtain ⟨f1, f2, f3⟩ := HCE.out V hSw; go_simp; try with_reducible rfl)
          try simp only [heldPut, List.set]
          refine heldTake (i := 44) (v := ?_) rfl (by kernel_rfl) (by kernel_rfl) (by kernel_rfl) (fun _ _ _ h => h) (Or.inl ⟨by rfl, ?_⟩) (by assumption) ?_
          rotate_left
          · (intro V hSw; (try dsimp only at hSw); obtain ⟨f1, f2, f3⟩ := HCE.out V hSw; go_simp; try with_reducible rfl)
          try simp only [heldPut, List.set]
          refine heldTake (i := 45) (v := ?_) rfl (by kernel_rfl) (by kernel_rfl) (by kernel_rfl) (fun _ _ _ h => h) (Or.inl ⟨by rfl, ?_⟩) (by assumption) ?_
          rotate_left
          · (intro V hSw; (try dsimp only at hSw); obtain ⟨f1, f2, f3⟩ := HCE.out V hSw; go_simp; try with_reducible rfl)
          try simp only [heldPut, List.set]
          refine heldTake (i := 46) (v := ?_) rfl (by kernel_rfl) (by kernel_rfl) (by kernel_rfl) (fun _ _ _ h => h) (Or.inl ⟨by rfl, ?_⟩) (by assumption) ?_
          rotate_left
          · (intro V hSw; (try dsimp only at hSw); obtain ⟨f1, f2, f3⟩ := HCE.out V hSw; go_simp; try with_reducible rfl)
          try simp only [heldPut, List.set]
          refine heldTake (i := 47) (v := ?_) rfl (by kernel_rfl) (by kernel_rfl) (by kernel_rfl) (fun _ _ _ h => h) (Or.inl ⟨by rfl, ?_⟩) (by assumption) ?_
          rotate_left
          · (intro V hSw; (try dsimp only at hSw); obtain ⟨f1, f2, f3⟩ := HCE.out V hSw; go_simp; try with_reducible rfl)
          try simp only [heldPut, List.set]
          refine heldTake (i := 48) (v := ?_) rfl (by kernel_rfl) (by kernel_rfl) (by kernel_rfl) (fun _ _ _ h => h) (Or.inl ⟨by rfl, ?_⟩) (by assumption) ?_
          rotate_left
          · (intro V hSw; (try dsimp only at hSw); obtain ⟨f1, f2, f3⟩ := HCE.out V hSw; go_simp; try with_reducible rfl)
          try simp only [heldPut, List.set]
          refine heldTake (i := 49) (v := ?_) rfl (by kernel_rfl) (by kernel_rfl) (by kernel_rfl) (fun _ _ _ h => h) (Or.inl ⟨by rfl, ?_⟩) (by assumption) ?_
          rotate_left
          · (intro V hSw; (try dsimp only at hSw); obtain ⟨f1, f2, f3⟩ := HCE.out V hSw; go_simp; try with_reducible rfl)
          try simp only [heldPut, List.set]
          refine heldTake (i := 50) (v := ?_) rfl (by kernel_rfl) (by kernel_rfl) (by kernel_rfl) (fun _ _ _ h => h) (Or.inl ⟨by rfl, ?_⟩) (by assumption) ?_
          rotate_left
          · (intro V hSw; (try dsimp only at hSw); obtain ⟨f1, f2, f3⟩ := HCE.out V hSw; go_simp; try with_reducible rfl)
          try simp only [heldPut, List.set]
          refine heldTake (i := 51) (v := ?_) rfl (by kernel_rfl) (by kernel_rfl) (by kernel_rfl) (fun _ _ _ h => h) (Or.inl ⟨by rfl, ?_⟩) (by assumption) ?_
          rotate_left
          · (intro V hSw; (try dsimp only at hSw); obtain ⟨f1, f2, f3⟩ := HCE.out V hSw; go_simp; try with_reducible rfl)
          try simp only [heldPut, List.set]
          refine heldTake (i := 52) (v := ?_) rfl (by kernel_rfl) (by kernel_rfl) (by kernel_rfl) (fun _ _ _ h => h) (Or.inl ⟨by rfl, ?_⟩) (by assumption) ?_
          rotate_left
          · (intro V hSw; (try dsimp only at hSw); obtain ⟨f1, f2, f3⟩ := HCE.out V hSw; go_simp; try with_reducible rfl)
          try simp only [heldPut, List.set]
          refine heldTake (i := 53) (v := ?_) rfl (by kernel_rfl) (by kernel_rfl) (by kernel_rfl) (fun _ _ _ h => h) (Or.inl ⟨by rfl, ?_⟩) (by assumption) ?_
          rotate_left
          · (intro V hSw; (try dsimp only at hSw); obtain ⟨f1, f2, f3⟩ := HCE.out V hSw; go_simp; try with_reducible rfl)
          try simp only [heldPut, List.set]
          refine heldTake (i := 54) (v := ?_) rfl (by kernel_rfl) (by kernel_rfl) (by kernel_rfl) (fun _ _ _ h => h) (Or.inl ⟨by rfl, ?_⟩) (by assumption) ?_
          rotate_left
          · (intro V hSw; (try dsimp only at hSw); obtain ⟨f1, f2, f3⟩ := HCE.out V hSw; go_simp; try with_reducible rfl)
          try simp only [heldPut, List.set]
          refine heldTake (i := 55) (v := ?_) rfl (by kernel_rfl) (by kernel_rfl) (by kernel_rfl) (fun _ _ _ h => h) (Or.inl ⟨by rfl, ?_⟩) (by assumption) ?_
          rotate_left
          · (intro V hSw; (try dsimp only at hSw); obtain ⟨f1, f2, f3⟩ := HCE.out V hSw; go_simp; try with_reducible rfl)
          try simp only [heldPut, List.set]
          refine heldTake (i := 56) (v := ?_) rfl (by kernel_rfl) (by kernel_rfl) (by kernel_rfl) (fun _ _ _ h => h) (Or.inl ⟨by rfl, ?_⟩) (by assumption) ?_
          rotate_left
          · (intro V hSw; (try dsimp only at hSw); obtain ⟨f1, f2, f3⟩ := HCE.out V hSw; go_simp; try with_reducible rfl)
          try simp only [heldPut, List.set]
          refine heldTake (i := 57) (v := ?_) rfl (by kernel_rfl) (by kernel_rfl) (by kernel_rfl) (fun _ _ _ h => h) (Or.inl ⟨by rfl, ?_⟩) (by assumption) ?_
          rotate_left
          · (intro V hSw; (try dsimp only at hSw); obtain ⟨f1, f2, f3⟩ := HCE.out V hSw; go_simp; try with_reducible rfl)
          try simp only [heldPut, List.set]
          refine heldTake (i := 58) (v := ?_) rfl (by kernel_rfl) (by kernel_rfl) (by kernel_rfl) (fun _ _ _ h => h) (Or.inl ⟨by rfl, ?_⟩) (by assumption) ?_
          rotate_left
          · (intro V hSw; (try dsimp only at hSw); obtain ⟨f1, f2, f3⟩ := HCE.out V hSw; go_simp; try with_reducible rfl)
          try simp only [heldPut, List.set]
          refine heldTake (i := 59) (v := ?_) rfl (by kernel_rfl) (by kernel_rfl) (by kernel_rfl) (fun _ _ _ h => h) (Or.inl ⟨by rfl, ?_⟩) (by assumption) ?_
          rotate_left
          · (intro V hSw; (try dsimp only at hSw); obtain ⟨f1, f2, f3⟩ := HCE.out V hSw; go_simp; try with_reducible rfl)
          try simp only [heldPut, List.set]
          refine heldTake (i := 60) (v := ?_) rfl (by kernel_rfl) (by kernel_rfl) (by kernel_rfl) (fun _ _ _ h => h) (Or.inl ⟨by rfl, ?_⟩) (by assumption) ?_
          rotate_left
          · (intro V hSw; (try dsimp only at hSw); obtain ⟨f1, f2, f3⟩ := HCE.out V hSw; go_simp; try with_reducible rfl)
          try simp only [heldPut, List.set]
          refine heldTake (i := 61) (v := ?_) rfl (by kernel_rfl) (by kernel_rfl) (by kernel_rfl) (fun _ _ _ h => h) (Or.inl ⟨by rfl, ?_⟩) (by assumption) ?_
          rotate_left
          · (intro V hSw; (try dsimp only at hSw); obtain ⟨f1, f2, f3⟩ := HCE.out V hSw; go_simp; try with_reducible rfl)
          try simp only [heldPut, List.set]
          refine heldTake (i := 62) (v := ?_) rfl (by kernel_rfl) (by kernel_rfl) (by kernel_rfl) (fun _ _ _ h => h) (Or.inl ⟨by rfl, ?_⟩) (by assumption) ?_
          rotate_left
          · (intro V hSw; (try dsimp only at hSw); obtain ⟨f1, f2, f3⟩ := HCE.out V hSw; go_simp; try with_reducible rfl)
          try simp only [heldPut, List.set]
          refine heldTake (i := 63) (v := ?_) rfl (by kernel_rfl) (by kernel_rfl) (by kernel_rfl) (fun _ _ _ h => h) (Or.inl ⟨by rfl, ?_⟩) (by assumption) ?_
          rotate_left
          · (intro V hSw; (try dsimp only at hSw); obtain ⟨f1, f2, f3⟩ := HCE.out V hSw; go_simp; try with_reducible rfl)
          try simp only [heldPut, List.set]
          refine heldTake (i := 64) (v := ?_) rfl (by kernel_rfl) (by kernel_rfl) (by kernel_rfl) (fun _ _ _ h => h) (Or.inl ⟨by rfl, ?_⟩) (by assumption) ?_
          rotate_left
          · (intro V hSw; (try dsimp only at hSw); obtain ⟨f1, f2, f3⟩ := HCE.out V hSw; go_simp; try with_reducible rfl)
          try simp only [heldPut, List.set]
          refine wpAnyH_done (by kernel_rfl) ?_ _
          refine NoPanic.normal ?_
          have HRE : Hid (RPx w w13 s m g W (i + 1)) := ⟨t, o3, n, S, F, L, HR11.out.below HB13.out⟩
          clear hHeld HR11 HB13 HB12 HB11 HCE
          go_wp2
          go_roundw
          case rel => exact ⟨i + 1, by omega, by omega, by go_num, HRE.out⟩
          case measure => simp [intOf]; omega
        | some y9 =>
          obtain ⟨x9, A9, c9⟩ := y9
          have HPK := Lib.hid (rpeek_some wc HRP.out.rv ht1 (show t ≤ _ by omega) hF)
          obtain ⟨j9, e9, hp9, hj9, hg9, -, hx9⟩ := HRP.out.ag.some hF
          have HPO := Lib.hid hp9
          have HJ9 := Lib.hid (⟨hg9, hx9⟩ : _ ∧ _)
          have HL9 := Lib.hid (HRP.out.rv.ent _ _ hF).ln
          rw [← HNL.out] at hj9
          clear hF hp9 hg9 hx9 ht1
          go_wp2_with fail
          refine HPK.out.mono ?_
          rintro _ w7 ⟨A7, c7, rfl, ho7, hb7⟩
          obtain ⟨n9, hn9⟩ : ∃ z, z = x9.l.length := ⟨_, rfl⟩
          rw [← hn9] at ho7 ⊢
          have HN9 := Lib.hid hn9
          have HB7 := Lib.hid hb7
          have HO7 := Lib.hid ho7
          clear hb7 HPK hn9 ho7
          go_upto_region 22 with (first | (refine wpList_store_row rfl _ _ _ rfl w7.heap.size #[.bool x9.g, .int .u8 x9.o, .int .u64 x9.q, .int .u64 x9.t, .string x9.r, .slice A7 n9 c7, .int .u8 x9.s, .int .u8 x9.p, .int .i64 x9.v, .int .u8 x9.w, .int .u8 x9.ga, .int .u64 x9.gf, .int .u64 x9.gt] rfl rfl _ _ (heap_alloc_new _ _) Try.infoIt rfl (by simp [Value.oneCell']) ?_) | fail)
          obtain ⟨w8, hw8, hc8, hb8, hl8⟩ := boxI w7 #[.bool false, .int .u8 0, .int .u64 0, .int .u64 0, .string ⟨#[]⟩, .slice none 0 0, .int .u8 0, .int .u8 0, .int .i64 0, .int .u8 0, .int .u8 0, .int .u64 0, .int .u64 0] #[.bool x9.g, .int .u8 x9.o, .int .u64 x9.q, .int .u64 x9.t, .string x9.r, .slice A7 n9 c7, .int .u8 x9.s, .int .u8 x9.p, .int .i64 x9.v, .int .u8 x9.w, .int .u8 x9.ga, .int .u64 x9.gf, .int .u64 x9.gt]
          rw [← hw8]
          obtain ⟨p8, hp8⟩ : ∃ z, z = w7.heap.size := ⟨_, rfl⟩
          rw [← hp8] at hc8 hl8 ⊢
          have HC8 : Hid (∀ V, Below w8.heap.size w8 V → V.heap[p8]? = some (.cells #[.bool x9.g, .int .u8 x9.o, .int .u64 x9.q, .int .u64 x9.t, .string x9.r, .slice A7 n9 c7, .int .u8 x9.s, .int .u8 x9.p, .int .i64 x9.v, .int .u8 x9.w, .int .u8 x9.ga, .int .u64 x9.gf, .int .u64 x9.gt] 43 (0, 0))) := fun V hV => (hV.block _ hl8).trans hc8
          have HO8 : Hid (∀ V, Below w8.heap.size w8 V → RdP V V.heap.size A7 x9.l) := fun V hV => RdP.of_own (own_below (own_below HO7.out hb8) hV)
          have HR8 := Lib.hid ((HRP.out.below HB7.out).below hb8)
          clear hw8 hb8 HB7 HRP hc8 hl8 hp8 HO7
          have k1 : w8.cell? ⟨g, 1, none⟩ = some (.int .u64 t1) := by
            obtain ⟨B8, d8, -, -, k1, -, -, -⟩ := HR8.out.rm.cells
            rw [HT1.out]; exact k1
          have HF8 := mfind_any t1 w8 HR8.out.rm
          rw [posZ_at HPO.out] at HF8
          have HF8 := Lib.hid HF8
          go_wp2_with fail
          refine HF8.out.mono ?_
          rintro _ w9 ⟨rfl, hb9⟩
          have HR9 := Lib.hid (HR8.out.below hb9)
          have HAK := rack_any w9 HR9.out.rv HT1.out (show t ≤ _ by omega) HW64.out.1 HW64.out.2
          rw [← HBZ.out] at HAK
          have HAK := Lib.hid HAK
          have HB9 := Lib.hid hb9
          clear hb9 HF8 HR8 k1
          go_wp2_with fail
          refine HAK.out.mono ?_
          rintro _ w10 ⟨rfl, hb10⟩
          have HR10 := Lib.hid (HR9.out.below hb10)
          have HB10 := Lib.hid (HB9.out.trans (hb10.mono HB9.out.size))
          have HCT := Lib.hid (rcounts_any w10 HR10.out.rv HT1.out (show t ≤ _ by omega))
          clear hb10 HAK HR9 HB9
          go_wp2_with fail
          refine HCT.out.mono ?_
          rintro _ w11 ⟨rfl, hb11⟩
          have HR11 := Lib.hid (HR10.out.below hb11)
          have HB11 := Lib.hid (HB10.out.trans (hb11.mono HB10.out.size))
          clear hb11 HCT HR10 HB10
          obtain ⟨B, d, hrr, -, m1, m2, m3, -⟩ := HR11.out.rm.cells
          rw [← HNL.out] at hrr m3
          have HCE : Hid (∀ V, Below w11.heap.size w11 V → V.cell? ⟨g, 1, none⟩ = some (.int .u64 t1) ∧ V.cell? ⟨g, 2, none⟩ = some (.int .u64 o3) ∧ V.cell? ⟨g, 3, none⟩ = some (.slice B n d)) := fun V hV => by
            have hgl := HR11.out.rm.lt g HR11.out.rm.sS
            exact ⟨by rw [HT1.out]; exact (hV.cell (p := ⟨g, 1, none⟩) hgl).trans m1, (hV.cell (p := ⟨g, 2, none⟩) hgl).trans m2, (hV.cell (p := ⟨g, 3, none⟩) hgl).trans m3⟩
          have HBT : Hid (∀ V, Below w11.heap.size w11 V → Calls Try.prog 19 #[.pointer (some ⟨g, 0, none⟩)] V fun e w' => e = .returned (.int .u64 bz) ∧ Below V.heap.size V w') := fun V hV => by
            have h1 := mbits_any V (HR11.out.below hV).rm (show t + 1 ≤ _ by omega)
            have h2 := rp_bits (HR11.out.below hV)
            show Calls _ _ _ _ _
            rw [HBZ.out, HT1.out, ← h2]
            exact h1
          obtain ⟨bb, cb, hB, hbl9, -, hr9⟩ := hrr.at_ HJ9.out.1
          injection hB with hB hB2 hB3
          clear hB2 hB3
          subst hB
          have HE9 : Hid (∀ V, Below w11.heap.size w11 V → V.rangeAt bb (j9 * 14 + 1) (itC e9.x e9.A e9.c)) := fun V hV k u hk => (hV.cell (p := ⟨bb, j9 * 14 + 1 + k, none⟩) hbl9).trans (hr9 k u hk)
          have HSM : Hid (∀ V, Below w11.heap.size w11 V → Calls Try.prog 18 #[.agg #[.bool x9.g, .int .u8 x9.o, .int .u64 x9.q, .int .u64 x9.t, .string x9.r, .slice A7 n9 c7, .int .u8 x9.s, .int .u8 x9.p, .int .i64 x9.v, .int .u8 x9.w, .int .u8 x9.ga, .int .u64 x9.gf, .int .u64 x9.gt], .agg (itC e9.x e9.A e9.c).toArray] V fun e w' => e = .returned (.bool true) ∧ Below V.heap.size V w') := fun V hV => by
            have hrd : RdP V V.heap.size A7 x9.l := HO8.out V (HB11.out.trans (hV.mono HB11.out.size))
            have hrd2 : RdP V V.heap.size e9.A e9.x.l := ((HR11.out.below hV).rm.ent e9 (List.mem_of_getElem? HJ9.out.1)).rd
            have hx : e9.x = x9 := HJ9.out.2
            have h1 := refSame_any x9 e9.x A7 n9 c7 e9.A e9.x.l.length e9.c V HN9.out rfl (by have : x9.l.length ≤ 1000 := HL9.out; have := HN9.out; unfold maxLen; omega) hrd hrd2
            rw [hx, sameI_refl] at h1
            rw [hx]
            exact h1
          have dj : decide ((0 : Int) ≤ (j9 : Int)) = true := decide_eq_true (by omega)
          have dj2 : decide ((j9 : Int) < (n : Int)) = true := decide_eq_true (by omega)
          have dj3 : decide (j9 < n) = true := decide_eq_true hj9
          clear hr9 hbl9
          clear hrr m1 m2 m3
          go_upto_region 25 with fail
          refine wp_region_noPanic ?_
          refine wp_region_held_drew (S := fun V => Below w11.heap.size w11 V) (by kernel_rfl) ?_ (fun hHeld => ?_)
          · exact (Below.refl _ _).drew
          try simp only [heldPut, List.set]
          refine heldTake (i := 0) (v := ?_) rfl (by kernel_rfl) (by kernel_rfl) (by kernel_rfl) (fun _ _ _ h => h) (Or.inl ⟨by rfl, ?_⟩) (by assumption) ?_
          rotate_left
          · (intro W hSw; (try dsimp only at hSw); go_simp; try with_reducible rfl)
          try simp only [heldPut, List.set]
          refine heldTake (i := 1) (v := ?_) rfl (by kernel_rfl) (by kernel_rfl) (by kernel_rfl) (fun _ _ _ h => h) (Or.inl ⟨by rfl, ?_⟩) (by assumption) ?_
          rotate_left
          · (intro W hSw; (try dsimp only at hSw); go_simp; try with_reducible rfl)
          try simp only [heldPut, List.set]
          refine heldTake (i := 2) (v := ?_) rfl (by kernel_rfl) (by kernel_rfl) (by kernel_rfl) (fun _ _ _ h => h) (Or.inl ⟨by rfl, ?_⟩) (by assumption) ?_
          rotate_left
          · (intro W hSw; (try dsimp only at hSw); go_simp; try with_reducible rfl)
          try simp only [heldPut, List.set]
          refine heldTake (i := 3) (v := ?_) rfl (by kernel_rfl) (by kernel_rfl) (by kernel_rfl) (fun _ _ _ h => h) (Or.inl ⟨by rfl, ?_⟩) (by assumption) ?_
          rotate_left
          · (intro W hSw; (try dsimp only at hSw); go_simp; try with_reducible rfl)
          try simp only [heldPut, List.set]
          refine heldTake (i := 4) (v := ?_) rfl (by kernel_rfl) (by kernel_rfl) (by kernel_rfl) (fun _ _ _ h => h) (Or.inl ⟨by rfl, ?_⟩) (by assumption) ?_
          rotate_left
          · (intro W hSw; (try dsimp only at hSw); go_simp; try with_reducible rfl)
          try simp only [heldPut, List.set]
          refine heldTake (i := 5) (v := ?_) rfl (by kernel_rfl) (by kernel_rfl) (by kernel_rfl) (fun _ _ _ h => h) (Or.inl ⟨by rfl, ?_⟩) (by assumption) ?_
          rotate_left
          · (intro W hSw; (try dsimp only at hSw); go_simp; try with_reducible rfl)
          try simp only [heldPut, List.set]
          refine heldTake (i := 6) (v := ?_) rfl (by kernel_rfl) (by kernel_rfl) (by kernel_rfl) (fun _ _ _ h => h) (Or.inl ⟨by rfl, ?_⟩) (by assumption) ?_
          rotate_left
          · (intro W hSw; (try dsimp only at hSw); go_simp; try with_reducible rfl)
          try simp only [heldPut, List.set]
          refine heldTake (i := 7) (v := .agg #[.bool x9.g, .int .u8 x9.o, .int .u64 x9.q, .int .u64 x9.t, .string x9.r, .slice A7 n9 c7, .int .u8 x9.s, .int .u8 x9.p, .int .i64 x9.v, .int .u8 x9.w, .int .u8 x9.ga, .int .u64 x9.gf, .int .u64 x9.gt]) rfl (by kernel_rfl) (by kernel_rfl) (by kernel_rfl) (fun _ _ _ h => h) (Or.inl ⟨by rfl, ?_⟩) (by assumption) ?_
          · (intro V hSw; exact exec_load_row 43 _ rfl p8 rfl _ _ _ _ (HC8.out V (HB11.out.trans (hSw.mono HB11.out.size))) Try.underlying43 rfl Try.infoIt)
          try simp only [heldPut, List.set]
          refine heldTake (i := 8) (v := ?_) rfl (by kernel_rfl) (by kernel_rfl) (by kernel_rfl) (fun _ _ _ h => h) (Or.inl ⟨by rfl, ?_⟩) (by assumption) ?_
          rotate_left
          · (intro V hSw; (try dsimp only at hSw); obtain ⟨f1, f2, f3⟩ := HCE.out V hSw; go_simp; try with_reducible rfl)
          try simp only [heldPut, List.set]
          refine heldTake (i := 9) (v := ?_) rfl (by kernel_rfl) (by kernel_rfl) (by kernel_rfl) (fun _ _ _ h => h) (Or.inl ⟨by rfl, ?_⟩) (by assumption) ?_
          rotate_left
          · (intro V hSw; (try dsimp only at hSw); obtain ⟨f1, f2, f3⟩ := HCE.out V hSw; go_simp; try with_reducible rfl)
          try simp only [heldPut, List.set]
          refine heldTake (i := 10) (v := ?_) rfl (by kernel_rfl) (by kernel_rfl) (by kernel_rfl) (fun _ _ _ h => h) (Or.inl ⟨by rfl, ?_⟩) (by assumption) ?_
          rotate_left
          · (intro V hSw; (try dsimp only at hSw); obtain ⟨f1, f2, f3⟩ := HCE.out V hSw; go_simp; try with_reducible rfl)
          try simp only [heldPut, List.set]
          refine heldTake (i := 11) (v := ?_) rfl (by kernel_rfl) (by kernel_rfl) (by kernel_rfl) (fun _ _ _ h => h) (Or.inl ⟨by rfl, ?_⟩) (by assumption) ?_
          rotate_left
          · (intro V hSw; (try dsimp only at hSw); obtain ⟨f1, f2, f3⟩ := HCE.out V hSw; go_simp; try with_reducible rfl)
          try simp only [heldPut, List.set]
          refine heldTake (i := 12) (v := ?_) rfl (by kernel_rfl) (by kernel_rfl) (by kernel_rfl) (fun _ _ _ h => h) (Or.inl ⟨by rfl, ?_⟩) (by assumption) ?_
          rotate_left
          · (intro V hSw; (try dsimp only at hSw); obtain ⟨f1, f2, f3⟩ := HCE.out V hSw; go_simp; try with_reducible rfl)
          try simp only [heldPut, List.set]
          refine heldTake (i := 13) (v := ?_) rfl (by kernel_rfl) (by kernel_rfl) (by kernel_rfl) (fun _ _ _ h => h) (Or.inl ⟨by rfl, ?_⟩) (by assumption) ?_
          rotate_left
          · (intro V hSw; (try dsimp only at hSw); obtain ⟨f1, f2, f3⟩ := HCE.out V hSw; go_simp; try with_reducible rfl)
          try simp only [heldPut, List.set]
          refine heldTake (i := 14) (v := ?_) rfl (by kernel_rfl) (by kernel_rfl) (by kernel_rfl) (fun _ _ _ h => h) (Or.inl ⟨by rfl, ?_⟩) (by assumption) ?_
          rotate_left
          · (intro V hSw; (try dsimp only at hSw); obtain ⟨f1, f2, f3⟩ := HCE.out V hSw; go_simp; try with_reducible rfl)
          try simp only [heldPut, List.set]
          refine heldTake (i := 15) (v := .agg (itC e9.x e9.A e9.c).toArray) rfl (by kernel_rfl) (by kernel_rfl) (by kernel_rfl) (fun _ _ _ h => h) (Or.inl ⟨by rfl, ?_⟩) (by assumption) ?_
          · (intro V hSw; exact exec_load_mid 43 _ rfl bb (j9 * 14 + 1) rfl _ _ (HE9.out V hSw) Try.underlying43 rfl Try.infoIt)
          try simp only [heldPut, List.set]
          refine heldOne (i := 16) rfl (by kernel_rfl) (fun K hK => ?_)
          go_simp
          refine (HSM.out _ ((Below.refl _ _).drew)).mono ?_
          rintro _ w12 ⟨rfl, hb12⟩
          have HB12 : Hid (Below w11.heap.size w11 w12) := (Below.refl _ w11).drew.trans hb12
          clear hb12 HSM
          go_wp2_with fail
          refine hK.out _ _ ?_ (fun hHeld => ?_)
          · exact HB12.out
          clear hK K
          try simp only [heldPut, List.set]
          refine heldTake (i := 17) (v := ?_) rfl (by kernel_rfl) (by kernel_rfl) (by kernel_rfl) (fun _ _ _ h => h) (Or.inl ⟨by rfl, ?_⟩) (by assumption) ?_
          rotate_left
          · (intro W hSw; (try dsimp only at hSw); go_simp; try with_reducible rfl)
          try simp only [heldPut, List.set]
          refine heldTake (i := 18) (v := ?_) rfl (by kernel_rfl) (by kernel_rfl) (by kernel_rfl) (fun _ _ _ h => h) (Or.inl ⟨by rfl, ?_⟩) (by assumption) ?_
          rotate_left
          · (intro W hSw; (try dsimp only at hSw); go_simp; try with_reducible rfl)
          try simp only [heldPut, List.set]
          refine heldTake (i := 19) (v := ?_) rfl (by kernel_rfl) (by kernel_rfl) (by kernel_rfl) (fun _ _ _ h => h) (Or.inl ⟨by rfl, ?_⟩) (by assumption) ?_
          rotate_left
          · (intro W hSw; (try dsimp only at hSw); go_simp; try with_reducible rfl)
          try simp only [heldPut, List.set]
          refine heldTake (i := 20) (v := ?_) rfl (by kernel_rfl) (by kernel_rfl) (by kernel_rfl) (fun _ _ _ h => h) (Or.inl ⟨by rfl, ?_⟩) (by assumption) ?_
          rotate_left
          · (intro W hSw; (try dsimp only at hSw); go_simp; try with_reducible rfl)
          try simp only [heldPut, List.set]
          refine heldTake (i := 21) (v := ?_) rfl (by kernel_rfl) (by kernel_rfl) (by kernel_rfl) (fun _ _ _ h => h) (Or.inl ⟨by rfl, ?_⟩) (by assumption) ?_
          rotate_left
          · (intro V hSw; (try dsimp only at hSw); obtain ⟨f1, f2, f3⟩ := HCE.out V hSw; go_simp; try with_reducible rfl)
          try simp only [heldPut, List.set]
          refine heldTake (i := 22) (v := ?_) rfl (by kernel_rfl) (by kernel_rfl) (by kernel_rfl) (fun _ _ _ h => h) (Or.inl ⟨by rfl, ?_⟩) (by assumption) ?_
          rotate_left
          · (intro V hSw; (try dsimp only at hSw); obtain ⟨f1, f2, f3⟩ := HCE.out V hSw; go_simp; try with_reducible rfl)
          try simp only [heldPut, List.set]
          refine heldTake (i := 23) (v := ?_) rfl (by kernel_rfl) (by kernel_rfl) (by kernel_rfl) (fun _ _ _ h => h) (Or.inl ⟨by rfl, ?_⟩) (by assumption) ?_
          rotate_left
          · (intro V hSw; (try dsimp only at hSw); obtain ⟨f1, f2, f3⟩ := HCE.out V hSw; go_simp; try with_reducible rfl)
          try simp only [heldPut, List.set]
          refine heldTake (i := 24) (v := ?_) rfl (by kernel_rfl) (by kernel_rfl) (by kernel_rfl) (fun _ _ _ h => h) (Or.inl ⟨by rfl, ?_⟩) (by assumption) ?_
          rotate_left
          · (intro V hSw; (try dsimp only at hSw); obtain ⟨f1, f2, f3⟩ := HCE.out V hSw; go_simp; try with_reducible rfl)
          try simp only [heldPut, List.set]
          refine heldTake (i := 25) (v := ?_) rfl (by kernel_rfl) (by kernel_rfl) (by kernel_rfl) (fun _ _ _ h => h) (Or.inl ⟨by rfl, ?_⟩) (by assumption) ?_
          rotate_left
          · (intro V hSw; (try dsimp only at hSw); obtain ⟨f1, f2, f3⟩ := HCE.out V hSw; go_simp; try with_reducible rfl)
          try simp only [heldPut, List.set]
          refine heldTake (i := 26) (v := ?_) rfl (by kernel_rfl) (by kernel_rfl) (by kernel_rfl) (fun _ _ _ h => h) (Or.inl ⟨by rfl, ?_⟩) (by assumption) ?_
          rotate_left
          · (intro V hSw; (try dsimp only at hSw); obtain ⟨f1, f2, f3⟩ := HCE.out V hSw; go_simp; try with_reducible rfl)
          try simp only [heldPut, List.set]
          refine heldTake (i := 27) (v := ?_) rfl (by kernel_rfl) (by kernel_rfl) (by kernel_rfl) (fun _ _ _ h => h) (Or.inl ⟨by rfl, ?_⟩) (by assumption) ?_
          rotate_left
          · (intro V hSw; (try dsimp only at hSw); obtain ⟨f1, f2, f3⟩ := HCE.out V hSw; go_simp; try with_reducible rfl)
          try simp only [heldPut, List.set]
          refine heldTake (i := 28) (v := ?_) rfl (by kernel_rfl) (by kernel_rfl) (by kernel_rfl) (fun _ _ _ h => h) (Or.inl ⟨by rfl, ?_⟩) (by assumption) ?_
          rotate_left
          · (intro V hSw; (try dsimp only at hSw); obtain ⟨f1, f2, f3⟩ := HCE.out V hSw; go_simp; try with_reducible rfl)
          try simp only [heldPut, List.set]
          refine heldTake (i := 29) (v := ?_) rfl (by kernel_rfl) (by kernel_rfl) (by kernel_rfl) (fun _ _ _ h => h) (Or.inl ⟨by rfl, ?_⟩) (by assumption) ?_
          rotate_left
          · (intro V hSw; (try dsimp only at hSw); obtain ⟨f1, f2, f3⟩ := HCE.out V hSw; go_simp; try with_reducible rfl)
          try simp only [heldPut, List.set]
          refine heldTake (i := 30) (v := ?_) rfl (by kernel_rfl) (by kernel_rfl) (by kernel_rfl) (fun _ _ _ h => h) (Or.inl ⟨by rfl, ?_⟩) (by assumption) ?_
          rotate_left
          · (intro V hSw; (try dsimp only at hSw); obtain ⟨f1, f2, f3⟩ := HCE.out V hSw; go_simp; try with_reducible rfl)
          try simp only [heldPut, List.set]
          refine heldTake (i := 31) (v := ?_) rfl (by kernel_rfl) (by kernel_rfl) (by kernel_rfl) (fun _ _ _ h => h) (Or.inl ⟨by rfl, ?_⟩) (by assumption) ?_
          rotate_left
          · (intro V hSw; (try dsimp only at hSw); obtain ⟨f1, f2, f3⟩ := HCE.out V hSw; go_simp; try with_reducible rfl)
          try simp only [heldPut, List.set]
          refine heldOne (i := 32) rfl (by kernel_rfl) (fun K hK => ?_)
          go_simp
          refine (HBT.out _ HB12.out).mono ?_
          rintro _ w13 ⟨rfl, hb13⟩
          have HB13 := Lib.hid (HB12.out.trans (hb13.mono HB12.out.size))
          clear hb13 HBT
          go_wp2_with fail
          refine hK.out _ _ ?_ (fun hHeld => ?_)
          · exact HB13.out
          clear hK K
          try simp only [heldPut, List.set]
          refine heldTake (i := 33) (v := ?_) rfl (by kernel_rfl) (by kernel_rfl) (by kernel_rfl) (fun _ _ _ h => h) (Or.inl ⟨by rfl, ?_⟩) (by assumption) ?_
          rotate_left
          · (intro V hSw; (try dsimp only at hSw); obtain ⟨f1, f2, f3⟩ := HCE.out V hSw; go_simp; try with_reducible rfl)
          try simp only [heldPut, List.set]
          refine heldTake (i := 34) (v := ?_) rfl (by kernel_rfl) (by kernel_rfl) (by kernel_rfl) (fun _ _ _ h => h) (Or.inl ⟨by rfl, ?_⟩) (by assumption) ?_
          rotate_left
          · (intro V hSw; (try dsimp only at hSw); obtain ⟨f1, f2, f3⟩ := HCE.out V hSw; go_simp; try with_reducible rfl)
          try simp only [heldPut, List.set]
          refine heldTake (i := 35) (v := ?_) rfl (by kernel_rfl) (by kernel_rfl) (by kernel_rfl) (fun _ _ _ h => h) (Or.inl ⟨by rfl, ?_⟩) (by assumption) ?_
          rotate_left
          · (intro V hSw; (try dsimp only at hSw); obtain ⟨f1, f2, f3⟩ := HCE.out V hSw; go_simp; try with_reducible rfl)
          try simp only [heldPut, List.set]
          refine heldTake (i := 36) (v := ?_) rfl (by kernel_rfl) (by kernel_rfl) (by kernel_rfl) (fun _ _ _ h => h) (Or.inl ⟨by rfl, ?_⟩) (by assumption) ?_
          rotate_left
          · (intro V hSw; (try dsimp only at hSw); obtain ⟨f1, f2, f3⟩ := HCE.out V hSw; go_simp; try with_reducible rfl)
          try simp only [heldPut, List.set]
          refine heldTake (i := 37) (v := ?_) rfl (by kernel_rfl) (by kernel_rfl) (by kernel_rfl) (fun _ _ _ h => h) (Or.inl ⟨by rfl, ?_⟩) (by assumption) ?_
          rotate_left
          · (intro V hSw; (try dsimp only at hSw); obtain ⟨f1, f2, f3⟩ := HCE.out V hSw; go_simp; try with_reducible rfl)
          try simp only [heldPut, List.set]
          refine heldTake (i := 38) (v := ?_) rfl (by kernel_rfl) (by kernel_rfl) (by kernel_rfl) (fun _ _ _ h => h) (Or.inl ⟨by rfl, ?_⟩) (by assumption) ?_
          rotate_left
          · (intro V hSw; (try dsimp only at hSw); obtain ⟨f1, f2, f3⟩ := HCE.out V hSw; go_simp; try with_reducible rfl)
          try simp only [heldPut, List.set]
          refine heldTake (i := 39) (v := ?_) rfl (by kernel_rfl) (by kernel_rfl) (by kernel_rfl) (fun _ _ _ h => h) (Or.inl ⟨by rfl, ?_⟩) (by assumption) ?_
          rotate_left
          · (intro V hSw; (try dsimp only at hSw); obtain ⟨f1, f2, f3⟩ := HCE.out V hSw; go_simp; try with_reducible rfl)
          try simp only [heldPut, List.set]
          refine heldTake (i := 40) (v := ?_) rfl (by kernel_rfl) (by kernel_rfl) (by kernel_rfl) (fun _ _ _ h => h) (Or.inl ⟨by rfl, ?_⟩) (by assumption) ?_
          rotate_left
          · (intro V hSw; (try dsimp only at hSw); obtain ⟨f1, f2, f3⟩ := HCE.out V hSw; go_simp; try with_reducible rfl)
          try simp only [heldPut, List.set]
          refine heldTake (i := 41) (v := ?_) rfl (by kernel_rfl) (by kernel_rfl) (by kernel_rfl) (fun _ _ _ h => h) (Or.inl ⟨by rfl, ?_⟩) (by assumption) ?_
          rotate_left
          · (intro V hSw; (try dsimp only at hSw); obtain ⟨f1, f2, f3⟩ := HCE.out V hSw; go_simp; try with_reducible rfl)
          try simp only [heldPut, List.set]
          refine heldTake (i := 42) (v := ?_) rfl (by kernel_rfl) (by kernel_rfl) (by kernel_rfl) (fun _ _ _ h => h) (Or.inl ⟨by rfl, ?_⟩) (by assumption) ?_
          rotate_left
          · (intro V hSw; (try dsimp only at hSw); obtain ⟨f1, f2, f3⟩ := HCE.out V hSw; go_simp; try with_reducible rfl)
          try simp only [heldPut, List.set]
          refine heldTake (i := 43) (v := ?_) rfl (by kernel_rfl) (by kernel_rfl) (by kernel_rfl) (fun _ _ _ h => h) (Or.inl ⟨by rfl, ?_⟩) (by assumption) ?_
          rotate_left
          · (intro V hSw; (try dsimp only at hSw); obtain ⟨f1, f2, f3⟩ := HCE.out V hSw; go_simp; try with_reducible rfl)
          try simp only [heldPut, List.set]
          refine heldTake (i := 44) (v := ?_) rfl (by kernel_rfl) (by kernel_rfl) (by kernel_rfl) (fun _ _ _ h => h) (Or.inl ⟨by rfl, ?_⟩) (by assumption) ?_
          rotate_left
          · (intro V hSw; (try dsimp only at hSw); obtain ⟨f1, f2, f3⟩ := HCE.out V hSw; go_simp; try with_reducible rfl)
          try simp only [heldPut, List.set]
          refine heldTake (i := 45) (v := ?_) rfl (by kernel_rfl) (by kernel_rfl) (by kernel_rfl) (fun _ _ _ h => h) (Or.inl ⟨by rfl, ?_⟩) (by assumption) ?_
          rotate_left
          · (intro V hSw; (try dsimp only at hSw); obtain ⟨f1, f2, f3⟩ := HCE.out V hSw; go_simp; try with_reducible rfl)
          try simp only [heldPut, List.set]
          refine heldTake (i := 46) (v := ?_) rfl (by kernel_rfl) (by kernel_rfl) (by kernel_rfl) (fun _ _ _ h => h) (Or.inl ⟨by rfl, ?_⟩) (by assumption) ?_
          rotate_left
          · (intro V hSw; (try dsimp only at hSw); obtain ⟨f1, f2, f3⟩ := HCE.out V hSw; go_simp; try with_reducible rfl)
          try simp only [heldPut, List.set]
          refine heldTake (i := 47) (v := ?_) rfl (by kernel_rfl) (by kernel_rfl) (by kernel_rfl) (fun _ _ _ h => h) (Or.inl ⟨by rfl, ?_⟩) (by assumption) ?_
          rotate_left
          · (intro V hSw; (try dsimp only at hSw); obtain ⟨f1, f2, f3⟩ := HCE.out V hSw; go_simp; try with_reducible rfl)
          try simp only [heldPut, List.set]
          refine heldTake (i := 48) (v := ?_) rfl (by kernel_rfl) (by kernel_rfl) (by kernel_rfl) (fun _ _ _ h => h) (Or.inl ⟨by rfl, ?_⟩) (by assumption) ?_
          rotate_left
          · (intro V hSw; (try dsimp only at hSw); obtain ⟨f1, f2, f3⟩ := HCE.out V hSw; go_simp; try with_reducible rfl)
          try simp only [heldPut, List.set]
          refine heldTake (i := 49) (v := ?_) rfl (by kernel_rfl) (by kernel_rfl) (by kernel_rfl) (fun _ _ _ h => h) (Or.inl ⟨by rfl, ?_⟩) (by assumption) ?_
          rotate_left
          · (intro V hSw; (try dsimp only at hSw); obtain ⟨f1, f2, f3⟩ := HCE.out V hSw; go_simp; try with_reducible rfl)
          try simp only [heldPut, List.set]
          refine heldTake (i := 50) (v := ?_) rfl (by kernel_rfl) (by kernel_rfl) (by kernel_rfl) (fun _ _ _ h => h) (Or.inl ⟨by rfl, ?_⟩) (by assumption) ?_
          rotate_left
          · (intro V hSw; (try dsimp only at hSw); obtain ⟨f1, f2, f3⟩ := HCE.out V hSw; go_simp; try with_reducible rfl)
          try simp only [heldPut, List.set]
          refine heldTake (i := 51) (v := ?_) rfl (by kernel_rfl) (by kernel_rfl) (by kernel_rfl) (fun _ _ _ h => h) (Or.inl ⟨by rfl, ?_⟩) (by assumption) ?_
          rotate_left
          · (intro V hSw; (try dsimp only at hSw); obtain ⟨f1, f2, f3⟩ := HCE.out V hSw; go_simp; try with_reducible rfl)
          try simp only [heldPut, List.set]
          refine heldTake (i := 52) (v := ?_) rfl (by kernel_rfl) (by kernel_rfl) (by kernel_rfl) (fun _ _ _ h => h) (Or.inl ⟨by rfl, ?_⟩) (by assumption) ?_
          rotate_left
          · (intro V hSw; (try dsimp only at hSw); obtain ⟨f1, f2, f3⟩ := HCE.out V hSw; go_simp; try with_reducible rfl)
          try simp only [heldPut, List.set]
          refine heldTake (i := 53) (v := ?_) rfl (by kernel_rfl) (by kernel_rfl) (by kernel_rfl) (fun _ _ _ h => h) (Or.inl ⟨by rfl, ?_⟩) (by assumption) ?_
          rotate_left
          · (intro V hSw; (try dsimp only at hSw); obtain ⟨f1, f2, f3⟩ := HCE.out V hSw; go_simp; try with_reducible rfl)
          try simp only [heldPut, List.set]
          refine heldTake (i := 54) (v := ?_) rfl (by kernel_rfl) (by kernel_rfl) (by kernel_rfl) (fun _ _ _ h => h) (Or.inl ⟨by rfl, ?_⟩) (by assumption) ?_
          rotate_left
          · (intro V hSw; (try dsimp only at hSw); obtain ⟨f1, f2, f3⟩ := HCE.out V hSw; go_simp; try with_reducible rfl)
          try simp only [heldPut, List.set]
          refine heldTake (i := 55) (v := ?_) rfl (by kernel_rfl) (by kernel_rfl) (by kernel_rfl) (fun _ _ _ h => h) (Or.inl ⟨by rfl, ?_⟩) (by assumption) ?_
          rotate_left
          · (intro V hSw; (try dsimp only at hSw); obtain ⟨f1, f2, f3⟩ := HCE.out V hSw; go_simp; try with_reducible rfl)
          try simp only [heldPut, List.set]
          refine heldTake (i := 56) (v := ?_) rfl (by kernel_rfl) (by kernel_rfl) (by kernel_rfl) (fun _ _ _ h => h) (Or.inl ⟨by rfl, ?_⟩) (by assumption) ?_
          rotate_left
          · (intro V hSw; (try dsimp only at hSw); obtain ⟨f1, f2, f3⟩ := HCE.out V hSw; go_simp; try with_reducible rfl)
          try simp only [heldPut, List.set]
          refine heldTake (i := 57) (v := ?_) rfl (by kernel_rfl) (by kernel_rfl) (by kernel_rfl) (fun _ _ _ h => h) (Or.inl ⟨by rfl, ?_⟩) (by assumption) ?_
          rotate_left
          · (intro V hSw; (try dsimp only at hSw); obtain ⟨f1, f2, f3⟩ := HCE.out V hSw; go_simp; try with_reducible rfl)
          try simp only [heldPut, List.set]
          refine heldTake (i := 58) (v := ?_) rfl (by kernel_rfl) (by kernel_rfl) (by kernel_rfl) (fun _ _ _ h => h) (Or.inl ⟨by rfl, ?_⟩) (by assumption) ?_
          rotate_left
          · (intro V hSw; (try dsimp only at hSw); obtain ⟨f1, f2, f3⟩ := HCE.out V hSw; go_simp; try with_reducible rfl)
          try simp only [heldPut, List.set]
          refine heldTake (i := 59) (v := ?_) rfl (by kernel_rfl) (by kernel_rfl) (by kernel_rfl) (fun _ _ _ h => h) (Or.inl ⟨by rfl, ?_⟩) (by assumption) ?_
          rotate_left
          · (intro V hSw; (try dsimp only at hSw); obtain ⟨f1, f2, f3⟩ := HCE.out V hSw; go_simp; try with_reducible rfl)
          try simp only [heldPut, List.set]
          refine heldTake (i := 60) (v := ?_) rfl (by kernel_rfl) (by kernel_rfl) (by kernel_rfl) (fun _ _ _ h => h) (Or.inl ⟨by rfl, ?_⟩) (by assumption) ?_
          rotate_left
          · (intro V hSw; (try dsimp only at hSw); obtain ⟨f1, f2, f3⟩ := HCE.out V hSw; go_simp; try with_reducible rfl)
          try simp only [heldPut, List.set]
          refine heldTake (i := 61) (v := ?_) rfl (by kernel_rfl) (by kernel_rfl) (by kernel_rfl) (fun _ _ _ h => h) (Or.inl ⟨by rfl, ?_⟩) (by assumption) ?_
          rotate_left
          · (intro V hSw; (try dsimp only at hSw); obtain ⟨f1, f2, f3⟩ := HCE.out V hSw; go_simp; try with_reducible rfl)
          try simp only [heldPut, List.set]
          refine heldTake (i := 62) (v := ?_) rfl (by kernel_rfl) (by kernel_rfl) (by kernel_rfl) (fun _ _ _ h => h) (Or.inl ⟨by rfl, ?_⟩) (by assumption) ?_
          rotate_left
          · (intro V hSw; (try dsimp only at hSw); obtain ⟨f1, f2, f3⟩ := HCE.out V hSw; go_simp; try with_reducible rfl)
          try simp only [heldPut, List.set]
          refine heldTake (i := 63) (v := ?_) rfl (by kernel_rfl) (by kernel_rfl) (by kernel_rfl) (fun _ _ _ h => h) (Or.inl ⟨by rfl, ?_⟩) (by assumption) ?_
          rotate_left
          · (intro V hSw; (try dsimp only at hSw); obtain ⟨f1, f2, f3⟩ := HCE.out V hSw; go_simp; try with_reducible rfl)
          try simp only [heldPut, List.set]
          refine heldTake (i := 64) (v := ?_) rfl (by kernel_rfl) (by kernel_rfl) (by kernel_rfl) (fun _ _ _ h => h) (Or.inl ⟨by rfl, ?_⟩) (by assumption) ?_
          rotate_left
          · (intro V hSw; (try dsimp only at hSw); obtain ⟨f1, f2, f3⟩ := HCE.out V hSw; go_simp; try with_reducible rfl)
          try simp only [heldPut, List.set]
          refine wpAnyH_done (by kernel_rfl) ?_ _
          refine NoPanic.normal ?_
          have HRE : Hid (RPx w w13 s m g W (i + 1)) := ⟨t, o3, n, S, F, L, HR11.out.below HB13.out⟩
          clear hHeld HR11 HB13 HB12 HB11 HCE
          go_wp2
          go_roundw
          case rel => exact ⟨i + 1, by omega, by omega, by go_num, HRE.out⟩
          case measure => simp [intOf]; omega
    · obtain rfl : i = N := by omega
      have q1 : decide ((i : Int) < (i : Int)) = false := decide_eq_false (by omega)
      have q2 : decide (i < i) = false := decide_eq_false (by omega)
      go_wp2
      go_ret
      exact ⟨rfl, hbl⟩
end recvPlays
end Go.Proofs.Ytileaoanekphaaa
