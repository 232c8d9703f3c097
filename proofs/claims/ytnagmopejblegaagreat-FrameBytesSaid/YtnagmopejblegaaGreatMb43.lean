/- Several texts in one: FrDecX, FrBy, FrAwake. -/
import Derived.Test.YtnagmopejblegaaGreatMb5
import Derived.Test.YtnagmopejblegaaGreatMb15
import Derived.Test.YtnagmopejblegaaGreatMb23
import Derived.Test.YtnagmopejblegaaGreatMb25
import Derived.Test.YtnagmopejblegaaGreatMb26
import Derived.Test.YtnagmopejblegaaGreatMb30
import Derived.Test.YtnagmopejblegaaGreatMb42
/- Layer 5: frame.Decode of any bytes. -/
namespace Go.Proofs.YtnagmopejblegaaGreat
open Go.RowKit

/-- a taken item that is a gap has neither a name nor labels -/
theorem takeR_gap (s : St) (hg : (takeR s).1.g = true) : (takeR s).1.r = ⟨#[]⟩ ∧ (takeR s).1.l = [] := by
  have hz : zeroI.r = ⟨#[]⟩ ∧ zeroI.l = [] := ⟨rfl, rfl⟩
  have hk : ∀ (y : It) (s : St), (chkR y s).1 = y ∨ (chkR y s).1 = zeroI := fun y s => by
    unfold chkR
    split
    · split
      · exact .inl rfl
      · exact .inr rfl
    · exact .inr rfl
  have ht : (takeR s).1 = (chkR (itR 12 8 8 16 s).1 (itR 12 8 8 16 s).2).1 := rfl
  rcases hk (itR 12 8 8 16 s).1 (itR 12 8 8 16 s).2 with h1 | h1
  · rw [ht, h1]
    rw [ht, h1] at hg
    cases hb : (rB s).1 with
    | false =>
      have e : itR 12 8 8 16 s = evR 12 8 8 16 (rB s).2 := by unfold itR bnd; rw [hb]; rfl
      rw [e] at hg
      cases hg
    | true =>
      have e : itR 12 8 8 16 s = gapR (rB s).2 := by unfold itR bnd; rw [hb]; rfl
      rw [e]
      exact ⟨rfl, rfl⟩
  · rw [ht, h1]; exact hz
theorem restR_item (k f t : Nat) (s : St) : ((restR k f t s).1.k = 1 ∧ ((restR k f t s).1.i.g = true → (restR k f t s).1.i.r = ⟨#[]⟩ ∧ (restR k f t s).1.i.l = [])) ∨ (restR k f t s).1.i = zeroI := by
  unfold restR
  split
  · rename_i h
    exact .inl ⟨h, takeR_gap _⟩
  · split
    · exact .inr rfl
    · exact .inr rfl
theorem takeF_item (s : St) : ((takeF s).1.k = 1 ∧ ((takeF s).1.i.g = true → (takeF s).1.i.r = ⟨#[]⟩ ∧ (takeF s).1.i.l = [])) ∨ (takeF s).1.i = zeroI := restR_item _ _ _ _

/-- a frame that was decoded is short -/
theorem decFr_short {l : List Nat} (hok : OkB l) (hl : l.length ≤ 1000000) (h : decN l = 0) : ShortF (decFr l) := by
  obtain ⟨_, hb, ht⟩ := decF_back hok h
  have hd : decFr l = (takeF (l, 0)).1 := by unfold decFr; rw [if_pos h]
  have hi := takeF_item (l, 0)
  rw [← hd] at hi
  generalize decFr l = y at *
  rcases hi with ⟨hk, hgap⟩ | hz
  · have hlen : (itemB y.i).length ≤ 1000000 := by
      have h1 := congrArg List.length hb
      unfold bodyF tailF at h1
      rw [if_pos hk] at h1
      simp only [List.length_cons, List.length_append] at h1
      omega
    cases hg : y.i.g with
    | false =>
      have hf := ht.fit hg
      exact ⟨⟨hf.r2, fun i p hp => (hf.l p (List.mem_of_getElem? hp)).2⟩, hf.c2, hlen⟩
    | true =>
      obtain ⟨h1, h2⟩ := hgap hg
      exact ⟨⟨by rw [h1]; exact Nat.zero_le _, fun i p hp => by rw [h2] at hp; simp at hp⟩, by rw [h2]; exact Nat.zero_le _, hlen⟩
  · exact ⟨by rw [hz]; exact ⟨by decide, fun i p hp => by cases hp⟩, by rw [hz]; decide, by rw [hz]; decide +kernel⟩

/-- what Decode answers of any bytes -/
def decX (X : List Nat) : Fr × Nat :=
  if X.length < 8 then (zeroF, 3)
  else if (sumN (X.take (X.length - 4)) == takeN (X.drop (X.length - 4))) = true then (decFr (X.take (X.length - 4)), decN (X.take (X.length - 4)))
  else (zeroF, 10)
theorem decX_short {X : List Nat} (h : X.length < 8) : decX X = (zeroF, 3) := by unfold decX; rw [if_pos h]
theorem split4 {X : List Nat} (h : 8 ≤ X.length) : ∃ x0 x1 x2 x3, X.drop (X.length - 4) = [x0, x1, x2, x3] := by
  have h4 : (X.drop (X.length - 4)).length = 4 := by rw [List.length_drop]; omega
  match X.drop (X.length - 4), h4 with
  | [a, b, c, d], _ => exact ⟨a, b, c, d, rfl⟩
theorem decX_fit {X : List Nat} (h8 : ¬ X.length < 8) (hs : (sumN (X.take (X.length - 4)) == takeN (X.drop (X.length - 4))) = true) : decX X = (decFr (X.take (X.length - 4)), decN (X.take (X.length - 4))) := by
  unfold decX; rw [if_neg h8, if_pos hs]
theorem decX_sum {X : List Nat} (h8 : ¬ X.length < 8) (hs : ¬ (sumN (X.take (X.length - 4)) == takeN (X.drop (X.length - 4))) = true) : decX X = (zeroF, 10) := by
  unfold decX; rw [if_neg h8, if_neg hs]
theorem decX_back {X : List Nat} {y : Fr} (hok : OkB X) (hl : X.length ≤ 1000000) (h : decX X = (y, 0)) : frameN y = 0 ∧ X = frB y ∧ OkF y ∧ ShortF y := by
  by_cases h8 : X.length < 8
  · rw [decX_short h8] at h
    exact absurd (congrArg Prod.snd h) (show ¬ (3 : Nat) = 0 by decide)
  · by_cases hs : (sumN (X.take (X.length - 4)) == takeN (X.drop (X.length - 4))) = true
    · rw [decX_fit h8 hs] at h
      have hokl : OkB (X.take (X.length - 4)) := hok.take _
      have h4 : (X.drop (X.length - 4)).length = 4 := by rw [List.length_drop]; omega
      have hf := four_takeN h4 (hok.drop _)
      rw [← beq_iff_eq.1 hs] at hf
      have hX : X = X.take (X.length - 4) ++ four (sumN (X.take (X.length - 4))) := by rw [hf, List.take_append_drop]
      have hll : (X.take (X.length - 4)).length ≤ 1000000 := by rw [List.length_take]; omega
      clear h8 hs h4 hf hl hok
      generalize X.take (X.length - 4) = l at *
      have hy : decFr l = y := congrArg Prod.fst h
      have h0 : decN l = 0 := congrArg Prod.snd h
      clear h
      obtain ⟨h1, h2, h3⟩ := decF_back hokl h0
      have hsh := decFr_short hokl hll h0
      rw [hy] at h1 h2 h3 hsh
      refine ⟨h1, ?_, h3.ok, hsh⟩
      unfold frB sealB
      rw [← h2]; exact hX
    · rw [decX_sum h8 hs] at h
      exact absurd (congrArg Prod.snd h) (show ¬ (10 : Nat) = 0 by decide)
theorem decX_zero {X : List Nat} {y : Fr} {er : Nat} (h : decX X = (y, er)) (he : er ≠ 0) : y = zeroF := by
  by_cases h8 : X.length < 8
  · rw [decX_short h8] at h; exact (congrArg Prod.fst h).symm
  · by_cases hs : (sumN (X.take (X.length - 4)) == takeN (X.drop (X.length - 4))) = true
    · rw [decX_fit h8 hs] at h
      generalize X.take (X.length - 4) = l at *
      have h1 : decFr l = y := congrArg Prod.fst h
      have h2 : decN l = er := congrArg Prod.snd h
      rw [← h1]
      unfold decFr
      rw [if_neg (by rw [h2]; exact he)]
    · rw [decX_sum h8 hs] at h; exact (congrArg Prod.fst h).symm
theorem decX_sealed {l : List Nat} {y : Fr} {er : Nat} (hok : OkB l) (h : decX (sealB l) = (y, er)) : er ≠ 10 := by
  have hlen := sealB_len l
  by_cases h8 : (sealB l).length < 8
  · rw [decX_short h8] at h
    rw [← show (3 : Nat) = er from congrArg Prod.snd h]; decide
  · have h1 : (sealB l).take ((sealB l).length - 4) = l := by rw [hlen]; unfold sealB; simp
    have h2 : (sealB l).drop ((sealB l).length - 4) = four (sumN l) := by rw [hlen]; unfold sealB; simp
    rw [decX_fit h8 (by rw [h1, h2, takeN_four (sumN_lt hok)]; simp), h1] at h
    rw [← show decN l = er from congrArg Prod.snd h]
    exact decN_n l
theorem decX_less {X : List Nat} {y : Fr} {er : Nat} (h : decX X = (y, er)) (h8 : X.length < 8) : er = 3 := by
  rw [decX_short h8] at h
  exact (congrArg Prod.snd h).symm

/-- Decode of any bytes -/
def DxRet (X : List Nat) (g s t : Nat) (w : World) (e : Ending) (w' : World) : Prop :=
  ∃ y er A n c, decX X = (y, er) ∧ e = .returned (.tuple #[.agg #[.int .u8 y.k, .int .u8 y.f, .int .u8 y.t, .int .u64 y.e, .int .u64 y.q, .bool y.i.g, .int .u8 y.i.o, .int .u64 y.i.q, .int .u64 y.i.t, .string y.i.r, .slice A n c, .int .u8 y.i.s, .int .u8 y.i.p, .int .i64 y.i.v, .int .u8 y.i.w, .int .u8 y.i.ga, .int .u64 y.i.gf, .int .u64 y.i.gt, .int .u64 y.c, .int .u64 y.b, .int .u64 y.l], .int .i64 (er : Nat)]) ∧ n = y.i.l.length ∧ w'.ownsRow w.heap.size 98 2 (.slice A n c) n (cellsP y.i.l) ∧ TurnsIn w w' g (fun _ => True) ∧ ∃ d s' t', d ≤ 1 ∧ s' ≤ s + 1 ∧ t' ≤ t + X.length ∧ Tab w' g d s' t'
theorem fdecX_any (g d s t : Nat) (hd : d ≤ 1) (A : Option Addr) (n c : Nat) (X : List Nat) (B : Nat) (w : World) (h : Tab w g d s t) (hn : n = X.length) (hm : n ≤ 1048576) (hc : n ≤ c) (hs : s < 18446744073709551615) (hbn : t + n < 18446744073709551616)
    (hr : RdB w B A X) (hB : B ≤ w.heap.size) (hok : OkB X) (hoff : Off A g X) :
    Calls Tryz.prog 9 #[.pointer (some ⟨g, 0, none⟩), .slice A n c] w (DxRet X g s t w) := by
  by_cases h8 : X.length < 8
  · refine (fdec_short g A n c (by omega) w).mono fun e w' ⟨he, hb⟩ => ?_
    exact ⟨zeroF, 3, none, 0, 0, decX_short h8, he, rfl, World.ownsRow_nil _ _ _ _, TurnsIn.of_below h.lt hb, d, s, t, hd, by omega, by omega, h.below hb⟩
  · obtain ⟨x0, x1, x2, x3, hx⟩ := split4 (X := X) (by omega)
    obtain ⟨b, o, rfl, hb, _⟩ := hr (by omega)
    have hsp : X.take (X.length - 4) ++ [x0, x1, x2, x3] = X := by rw [← hx, List.take_append_drop]
    have hok4 : OkB [x0, x1, x2, x3] := by rw [← hx]; exact hok.drop _
    have hokl : OkB (X.take (X.length - 4)) := hok.take _
    have hll : X.length - 4 = (X.take (X.length - 4)).length := by rw [List.length_take]; omega
    have hbg : b ≠ g := hoff (by omega) _ rfl
    have hn4 : n = X.length - 4 + 4 := by omega
    cases hy : (sumN (X.take (X.length - 4)) == takeN [x0, x1, x2, x3]) with
    | true =>
      have hdx : decX X = (decFr (X.take (X.length - 4)), decN (X.take (X.length - 4))) := decX_fit h8 (by rw [hx]; exact hy)
      have hcall := fdec_any g d s t hd b o (X.length - 4) c (X.take (X.length - 4)) x0 x1 x2 x3 B w h hll (by omega) (by omega) (by omega) hs (by omega) (by rw [hsp]; exact hr) hB hokl hok4 hbg hy
      rw [hn4]
      refine hcall.mono fun e w' ⟨A', n', c', he, hn', ho, ht, hT⟩ => ?_
      exact ⟨_, _, A', n', c', hdx, he, hn', ho, ht, 1, s + 1, t + (X.length - 4), Nat.le_refl _, Nat.le_refl _, by omega, hT⟩
    | false =>
      have hdx : decX X = (zeroF, 10) := decX_sum h8 (by rw [hx, hy]; exact fun h => by cases h)
      have hcall := fdec_sum g d s t hd b o (X.length - 4) c (X.take (X.length - 4)) x0 x1 x2 x3 B w h hll (by omega) (by omega) (by omega) hs (by omega) (by rw [hsp]; exact hr) hB hokl hok4 hbg hy
      rw [hn4]
      refine hcall.mono fun e w' ⟨A', n', c', he, hn', ho, ht, hT⟩ => ?_
      exact ⟨_, _, A', n', c', hdx, he, hn', ho, ht, 1, s + 1, t + (X.length - 4), Nat.le_refl _, Nat.le_refl _, by omega, hT⟩
end Go.Proofs.YtnagmopejblegaaGreat
/- Layer 5: rows of bytes that stay while a table counts; what holds in the loop of the statement on bytes. -/
namespace Go.Proofs.YtnagmopejblegaaGreat
open Go.RowKit
section
variable {V V' W : World} {g n c d s t X : Nat} {A : Option Addr} {l : List Nat}
/-- a slice of bytes that reads as l, apart from the table at g -/
structure Elem (V : World) (g : Nat) (A : Option Addr) (n c : Nat) (l : List Nat) : Prop where
  rd : RdB V V.heap.size A l
  n_ : n = l.length
  nc : n ≤ c
  ok : OkB l
  off : Off A g l
  len : l.length ≤ 1000
  nil : A = none → n = 0
theorem Elem.grown {r : Option Nat} (h : Elem V g A n c l) (hg : V.grownBy V' r) (hr : ∀ k, r = some k → 0 < l.length → ∀ a, A = some a → a.block ≠ k) : Elem V' g A n c l :=
  ⟨fun h0 => ((h.rd.grown hg (fun k e a ha => hr k e h0 a ha)).more hg.size) h0, h.n_, h.nc, h.ok, h.off, h.len, h.nil⟩
theorem Elem.below (h : Elem V g A n c l) (hb : Below V.heap.size V V') : Elem V' g A n c l := h.grown (grown_below0 hb none) (fun k e => by cases e)
theorem Elem.turn (h : Elem V g A n c l) (ht : TurnsIn V V' g (fun _ => True)) : Elem V' g A n c l :=
  h.grown ht.grown (fun k e h0 a ha => by cases e; exact h.off h0 a ha)
theorem Elem.own {base : Nat} {e : TypeId} (ho : V.ownsRow base e 1 (.slice A n c) n (cellsB l)) (hn : n = l.length) (hok : OkB l) (hl : l.length ≤ 1000) (hg : g < base) : Elem V g A n c l :=
  { rd := RdB.of_own ho
    n_ := hn
    nc := by
      rcases ho.2 with ⟨e, _⟩ | ⟨k, cap, cur, e, _, _, hc, _⟩
      · injection e with _ e2 _; omega
      · injection e with _ _ e3; omega
    ok := hok
    off := fun h0 a ha => by
      subst ha
      have := (ho.lt a.block rfl).1
      omega
    len := hl
    nil := by
      rintro rfl
      rcases ho.2 with ⟨e, e2⟩ | ⟨k, cap, cur, e, _⟩
      · exact e2
      · cases e }
/-- the table, in the ways through the loop -/
structure LpAt (W V : World) (g d s t : Nat) : Prop where
  ti : TurnsIn W V g (fun _ => True)
  tab : Tab V g d s t
  lt : g < W.heap.size
theorem LpAt.far {r : Option Nat} (h : LpAt W V g d s t) (hg : V.grownBy V' r) (hr : ∀ k, r = some k → W.heap.size ≤ k) : LpAt W V' g d s t :=
  have hl := h.lt
  ⟨h.ti.far hg hr hl, h.tab.far hg (fun e => by have := hr _ e; omega), hl⟩
theorem LpAt.below (h : LpAt W V g d s t) (hb : Below V.heap.size V V') : LpAt W V' g d s t := h.far (grown_below0 hb none) (fun k e => by cases e)
theorem LpAt.row (h : LpAt W V g d s t) (X : Nat) (hX : W.heap.size ≤ X) (cs : Array Value) : LpAt W (V.setRow X cs) g d s t :=
  h.far (grown_row V X cs) (fun k e => by cases e; exact hX)
theorem LpAt.turn {d' s' t' : Nat} (h : LpAt W V g d s t) (ht : TurnsIn V V' g (fun _ => True)) (hT : Tab V' g d' s' t') : LpAt W V' g d' s' t' := ⟨h.ti.trans ht, hT, h.lt⟩
theorem LpAt.wl (h : LpAt W V g d s t) : W.heap.size ≤ V.heap.size := h.ti.grown.size
theorem LpAt.end_ {w0 : World} (h : LpAt W V g d s t) (hb : Below w0.heap.size w0 W) (hg : w0.heap.size ≤ g) : Below w0.heap.size w0 V := hb.grown h.ti.grown hb.size (fun k e => by cases e; exact hg)
theorem LpAt.block (h : LpAt W V g d s t) {R : Nat} {C : Array Value} {ty : TypeId} (hR : W.heap[R]? = some (.cells C ty (0, 0))) (hne : R ≠ g) : V.heap[R]? = some (.cells C ty (0, 0)) :=
  (h.ti.grown.block R (Array.getElem?_eq_some_iff.1 hR).1 (fun e => hne (by injection e))).trans hR
end
theorem bodyF_small {s : Sf} (hs : OkSf s) : (bodyF (smallF s)).length ≤ 400 := by
  have hx := smallF_ok hs
  have h1 := leb_le10 hx.e
  have h2 := leb_le10 hx.q
  have h3 := leb_le10 hx.c
  have h4 := leb_le10 hx.b
  have h5 := leb_le10 hx.l
  have h6 : (smallF s).k = 1 → (smallF s).i = smallI s.i := fun h => by
    unfold smallF at h ⊢
    by_cases q1 : s.k % 3 = 0
    · rw [if_pos q1]
    · rw [if_neg q1] at h ⊢
      by_cases q2 : s.k % 3 = 1
      · rw [if_pos q2] at h; cases h
      · rw [if_neg q2] at h; cases h
  have h7 := smallI_len s.i hs.i
  unfold bodyF tailF
  by_cases k1 : (smallF s).k = 1
  · rw [if_pos k1, h6 k1]
    simp only [List.length_cons, List.length_append]
    omega
  · rw [if_neg k1]
    split <;> simp only [List.length_cons, List.length_append, List.length_nil] <;> omega
end Go.Proofs.YtnagmopejblegaaGreat
/- Layer 5: the fixed fact that each statement begins with. -/
namespace Go.Proofs.YtnagmopejblegaaGreat
open Go.RowKit

theorem own_posF {W : World} {base : Nat} {e : TypeId} {n : Nat} {v : Value} {xs : List Value} (h : W.ownsRow base e 1 v n xs) (hn : 0 < n) : ∃ b c, v = .slice (some ⟨b, 0, none⟩) n c ∧ n ≤ c ∧ base ≤ b := by
  rcases h.2 with ⟨rfl, rfl⟩ | ⟨g, cap, cur, rfl, hg, _, hc, _⟩
  · omega
  · exact ⟨_, _, rfl, hc, hg⟩
/-- the frame of the fixed fact -/
def aliveF : Fr := ⟨3, 2, 1, 0, 0, zeroI, 0, 0, 0⟩
theorem aliveF_body : bodyF aliveF = [183, 3, 2, 1] := by decide +kernel
theorem aliveF_ok : OkF aliveF := by
  refine ⟨?_, ?_, ?_, ?_, ?_, ?_, ?_, ?_, ?_⟩ <;> first | exact OkI.zero | decide
theorem aliveF_short : ShortF aliveF := by
  refine ⟨⟨by decide, fun i p h => by cases h⟩, by decide, by decide +kernel⟩
theorem aliveF_right : frameN aliveF = 0 := by decide +kernel

set_option maxRecDepth 100000 in
set_option maxHeartbeats 4000000 in
theorem fawake_any (w : World) :
    Calls Tryz.prog 4 #[] w fun e w' => e = .returned (.bool true) ∧ Below w.heap.size w w' := by
  have Hn := Lib.hid (new_any w)
  go_enter Tryz.func4, Tryz.ntmps4
  go_wp2_with fail
  refine Hn.out.mono ?_
  rintro e w1 ⟨rfl, hb1, hsz1, hT1⟩
  have HT1 := Lib.hid hT1
  have Hsz := Lib.hid hsz1
  have Hb1 := Lib.hid hb1
  clear hT1 hsz1 hb1 Hn
  go_wp2_with fail
  refine (fencode_any w.heap.size 0 0 0 (by decide) aliveF none 0 0 aliveF_ok aliveF_short aliveF_right rfl w1 HT1.out (by decide) (by decide) RdP.none_).mono ?_
  rintro e w2 ⟨v2, rfl, ho, ht2, _⟩
  rw [aliveF_body] at ho
  obtain ⟨b, c, rfl, hc, hb⟩ := own_posF ho (by decide)
  have Hb2 := Lib.hid (Hb1.out.grown ht2.grown (by have := Hb1.out.size; omega) (fun k hk => by cases hk; exact Nat.le_refl _))
  have hrd : RdB w2 w2.heap.size (some ⟨b, 0, none⟩) [183, 3, 2, 1] := (RdB.of_own ho).take 4
  have hcv := conv_any (A := some ⟨b, 0, none⟩) (n := 4) (c := c) (l := [183, 3, 2, 1]) hrd rfl (fun e => by cases e)
  have hs : strB [183, 3, 2, 1] = ⟨#[183, 3, 2, 1]⟩ := rfl
  rw [hs] at hcv
  have hc4 : (4 : Int) ≤ c := by omega
  clear ho hrd hs ht2 hc hb
  go_wp2
  go_ret
  exact ⟨rfl, Hb2.out⟩
end Go.Proofs.YtnagmopejblegaaGreat
