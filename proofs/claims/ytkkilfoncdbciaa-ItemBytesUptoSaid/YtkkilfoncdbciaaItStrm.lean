/- Layer 4, plain: items one behind the other. -/
import Derived.Test.YtkkilfoncdbciaaItDec
import Derived.Test.YtkkilfoncdbciaaItSmalls
import Derived.Test.YtkkilfoncdbciaaItBytesOk
import Derived.Test.YtkkilfoncdbciaaItEnc
import Derived.Test.YtkkilfoncdbciaaItSameRef
namespace Go.Proofs.Ytkkilfoncdbciaa
open Go.RowKit

def strmB (l : List Sm) : List Nat := l.flatMap (fun s => itemB (smallI s))
theorem strmB_take {l : List Sm} {k : Nat} {s : Sm} (h : l[k]? = some s) : strmB (l.take (k + 1)) = strmB (l.take k) ++ itemB (smallI s) := by
  unfold strmB
  rw [List.take_add_one, h, List.flatMap_append]
  simp
theorem strmB_drop {l : List Sm} {k : Nat} {s : Sm} (h : l[k]? = some s) : strmB (l.drop k) = itemB (smallI s) ++ strmB (l.drop (k + 1)) := by
  obtain ⟨hk, rfl⟩ := List.getElem?_eq_some_iff.1 h
  unfold strmB
  rw [List.drop_eq_getElem_cons hk, List.flatMap_cons]
theorem strmB_len : ∀ {l : List Sm}, (∀ s ∈ l, OkS s) → (strmB l).length ≤ 300 * l.length
  | [], _ => Nat.le_refl _
  | s :: l, h => by
    have h1 := smallI_len s (h s (by simp))
    have h2 := strmB_len (l := l) fun x hx => h x (by simp [hx])
    show (itemB (smallI s) ++ strmB l).length ≤ _
    rw [List.length_append, List.length_cons]; omega
theorem smallB_ok {s : Sm} (h : OkS s) : OkB (itemB (smallI s)) := itemB_ok (smallI_ok s h) (smallI_short s) (by have := smallI_labs s; omega)
theorem strmB_ok : ∀ {l : List Sm}, (∀ s ∈ l, OkS s) → OkB (strmB l)
  | [], _ => OkB.nil
  | s :: l, h => (smallB_ok (h s (by simp))).append (strmB_ok fun x hx => h x (by simp [hx]))
theorem take_stream {s : Sm} (hs : OkS s) (rest : List Nat) : takeR (itemB (smallI s) ++ rest, 0) = (normI (smallI s), (rest, 0)) := takeR_p (smallI_ok s hs) (smallI_right s hs) rest
theorem same_norm (x : It) : sameI (normI x) x = true := (normI_eq _ _).2 (normI_norm x)
theorem dec_cut {x : It} (hx : OkI x) (h : itemN x = 0) {K : Nat} (hK : K < (itemB x).length) : decE ((itemB x).take K) = 3 := by
  unfold decE
  rw [takeR_c hx h K hK]; rfl
theorem dec_rest {x : It} (hx : OkI x) (h : itemN x = 0) (z : Nat) (l : List Nat) : decE (itemB x ++ z :: l) = 25 := by
  unfold decE
  rw [takeR_p hx h (z :: l)]; rfl
theorem dec_right {x : It} (hx : OkI x) (h : itemN x = 0) : decE (itemB x) = 0 ∧ decI (itemB x) = normI x := by
  have k := takeR_p hx h []
  rw [List.append_nil] at k
  have e : decE (itemB x) = 0 := by unfold decE; rw [k]; rfl
  exact ⟨e, by unfold decI; rw [e, if_pos rfl, k]⟩
theorem itemB_pos (x : It) : 0 < (itemB x).length := by unfold itemB; split <;> simp

theorem LabAt.of_new {w : World} {g base n c : Nat} {r : Option Nat} {A : Option Addr} {l : List Pr} {e : TypeId} (ho : w.ownsRow base e 2 (.slice A n c) n (cellsP l)) (hg : g < base) (hr : ∀ k, r = some k → k < base) : LabAt w g r A l := fun h0 => by
  obtain ⟨b, o, e, hb, hc⟩ := RdP.of_own ho h0
  subst e
  have := (ho.lt b (by simp [Value.ownBlock])).1
  exact ⟨b, o, rfl, hb, by omega, fun e => by have := hr b e.symm; omega, hc⟩
theorem Puts.below {w0 w w' : World} {g : Nat} {v : Value} {l l2 : List Nat} (h : Puts w w' g v l) (hw : Wtr w g v l2) (hb : Below w0.heap.size w0 w) (hg : w0.heap.size ≤ g) : Below w0.heap.size w0 w' := by
  obtain ⟨v', _, h2⟩ := h
  exact hb.trans (h2.below hb.size hg (fun k hk => by have := hw.ne k hk; omega))
theorem refSame_true {x y : It} (hs : sameI x y = true) (A : Option Addr) (n c : Nat) (A2 : Option Addr) (n2 c2 : Nat) (w : World) (hn : n = x.l.length) (hn2 : n2 = y.l.length) (hm : n ≤ maxLen) (hr : RdP w w.heap.size A x.l) (hr2 : RdP w w.heap.size A2 y.l) :
    Calls Try.prog 18 #[.agg #[.bool x.g, .int .u8 x.o, .int .u64 x.q, .int .u64 x.t, .string x.r, .slice A n c, .int .u8 x.s, .int .u8 x.p, .int .i64 x.v, .int .u8 x.w, .int .u8 x.ga, .int .u64 x.gf, .int .u64 x.gt], .agg #[.bool y.g, .int .u8 y.o, .int .u64 y.q, .int .u64 y.t, .string y.r, .slice A2 n2 c2, .int .u8 y.s, .int .u8 y.p, .int .i64 y.v, .int .u8 y.w, .int .u8 y.ga, .int .u64 y.gf, .int .u64 y.gt]] w fun e w' => e = .returned (.bool true) ∧ Below w.heap.size w w' :=
  (refSame_any x y A n c A2 n2 c2 w hn hn2 hm hr hr2).mono fun e w' h => ⟨by rw [h.1, hs], h.2⟩
theorem own_slice1 {W : World} {base : Nat} {e : TypeId} {n : Nat} {v : Value} {xs : List Value} (h : W.ownsRow base e 1 v n xs) : ∃ A c, v = .slice A n c := by
  rcases h.2 with ⟨rfl, rfl⟩ | ⟨g, cap, cur, rfl, _⟩
  · exact ⟨none, 0, rfl⟩
  · exact ⟨_, _, rfl⟩
theorem own_pos1 {W : World} {base : Nat} {e : TypeId} {n : Nat} {v : Value} {xs : List Value} (h : W.ownsRow base e 1 v n xs) (hn : 0 < n) : ∃ b c, v = .slice (some ⟨b, 0, none⟩) n c ∧ n ≤ c := by
  rcases h.2 with ⟨rfl, rfl⟩ | ⟨g, cap, cur, rfl, _, _, hc, _⟩
  · omega
  · exact ⟨_, _, rfl, hc⟩
theorem own_nil1 {W : World} {base : Nat} {e : TypeId} {A : Option Addr} {n c : Nat} {xs : List Value} (h : W.ownsRow base e 1 (.slice A n c) n xs) : A = none → n = 0 := by
  rintro rfl
  rcases h.2 with ⟨e, rfl⟩ | ⟨g, cap, cur, e, _⟩
  · rfl
  · cases e
theorem Try.infoS : (Try.prog.info? 33).map (·.size) = some 11 := by kernel_rfl
end Go.Proofs.Ytkkilfoncdbciaa
