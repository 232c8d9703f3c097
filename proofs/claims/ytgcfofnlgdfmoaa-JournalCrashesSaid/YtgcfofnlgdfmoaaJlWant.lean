/- Layer 7: JournalCrashes: a row of records that is copied and grown; what the walk needs in plain words. -/
import Derived.Test.YtgcfofnlgdfmoaaJlOne
import Derived.Test.YtgcfofnlgdfmoaaJlCrash
import Derived.Test.YtgcfofnlgdfmoaaJlSpA
import Derived.Test.YtgcfofnlgdfmoaaDkArgsCap
namespace Go.Proofs.Ytgcfofnlgdfmoaa
open Go.RowKit

theorem src_of_own1 {w : World} {base : Nat} {e : TypeId} {A : Option Addr} {n c : Nat} {xs : List Value} (h : w.ownsRow base e 1 (.slice A n c) n xs) : Src w A n 1 xs := by
  refine ⟨h.1, fun h0 => ?_⟩
  obtain ⟨g, cap, hv, _, _⟩ := h.form h0
  injection hv with hv
  subst hv
  exact ⟨_, rfl, fun j u hj => h.cells (g := g) rfl j u hj⟩
theorem rowC_one (X : List (Option Addr × Nat × Nat)) : ∀ u ∈ X.map rowC, u.oneCell' = true := by
  intro u hu
  obtain ⟨x, _, rfl⟩ := List.mem_map.1 hu
  rfl
/-- a copy of a row of records -/
theorem RsS.copy {w_ w w' : World} {S : Nat → Prop} {g : Nat} {v q v' : Value} {L : List (List Nat)} {X : List (Option Addr × Nat × Nat)} (hX : RsX w_ 0 g v X L)
    (h1 : ∀ (i : Nat) (x : Option Addr × Nat × Nat) (l : List Nat) (a : Addr), X[i]? = some x → L[i]? = some l → x.1 = some a → 0 < l.length → ¬ S a.block) (hS : ∀ k, S k → k < w_.heap.size) (hg : g < w_.heap.size)
    (hb : Below w_.heap.size w_ w) (hq : ∀ k, q.ownBlock = some k → w_.heap.size ≤ k) (hgr : w.grownBy w' q.ownBlock) (hb' : v'.ownBlock = q.ownBlock ∨ v'.ownBlock = some w.heap.size) (ho : w'.ownsRow 0 37 1 v' (0 + L.length) ([] ++ X.map rowC)) : RsS S w' g v' L := by
  have hv : ∀ k, v'.ownBlock = some k → w_.heap.size ≤ k := fun k hk => by
    rcases hb' with h' | h'
    · rw [h'] at hk; exact hq k hk
    · rw [h'] at hk; injection hk with hk; have := hb.size; omega
  have lt : ∀ {A : Option Addr} {l : List Nat} {a : Addr}, RdB w_ w_.heap.size A l → A = some a → 0 < l.length → a.block < w_.heap.size := fun hr ha h0 => by
    obtain ⟨b, o, e, hb, _⟩ := hr h0
    rw [ha] at e
    injection e with e
    rw [e]; exact hb
  rw [Nat.zero_add, List.nil_append] at ho
  refine ⟨X, ⟨ho, hX.len, fun i x l hx hl => ?_, fun e => by have := hv g e; omega⟩, h1, fun i hi hs => by have := hv i hi; have := hS i hs; omega⟩
  have qe := hX.each i x l hx hl
  have hlow : Below w_.heap.size w_ w' := hb.trans ⟨hgr.os, hgr.tape, hgr.output, hgr.size, fun k hk => hgr.block k (Nat.lt_of_lt_of_le hk hb.size) (fun e => by have := hq k e.symm; omega)⟩
  exact ⟨qe.n, qe.nil, (qe.rd.below hlow).more hlow.size, qe.ok, fun a ha h0 => ⟨Nat.zero_le _, (qe.far a ha h0).2.1, fun e => by have := hv _ e; have := lt qe.rd ha h0; omega⟩⟩
theorem src_cell (w : World) (a : Value) (t : TypeId) : Src (w.alloc (.cells #[a] t)) (some ⟨w.heap.size, 0, none⟩) 1 1 [a] :=
  ⟨rfl, fun _ => ⟨_, rfl, fun j u hj => by
    cases j with
    | zero => simp at hj; subst hj; exact cell5 _ _ _ 0
    | succ j => simp at hj⟩⟩
theorem DT.apart {w0 w w' : World} {gd g : Nat} {S T : Nat → Prop} {b : List Nat} {s wr sy t u : Nat} (h : DT w0 w gd g S b s wr sy t u) (ho : Only T w w') (hb : Below w0.heap.size w0 w') (hT : ∀ k, T k → ¬ S k) (hg : ¬ T g) : DT w0 w' gd g S b s wr sy t u := by
  obtain ⟨LL, wr', sy', a1, a2, a3, a4⟩ := h.dk
  obtain ⟨d, t', u', b1, b2, b3, b4⟩ := h.tab
  exact ⟨⟨LL, wr', sy', a1, a2, a3.keep ho (fun k hk ht => hT k ht hk), a4⟩, ⟨d, t', u', b1, b2, b3, b4.only ho hg⟩, h.SB, h.Sg, h.gB, hb⟩
/-- one record more -/
theorem RsS.app {w w' : World} {S : Nat → Prop} {g : Nat} {v v' : Value} {L : List (List Nat)} {l : List Nat} {A : Option Addr} {n c B : Nat} {X : List (Option Addr × Nat × Nat)} (hX : RsX w 0 g v X L)
    (h1 : ∀ (i : Nat) (x : Option Addr × Nat × Nat) (l : List Nat) (a : Addr), X[i]? = some x → L[i]? = some l → x.1 = some a → 0 < l.length → ¬ S a.block) (h2 : ∀ i, v.ownBlock = some i → ¬ S i) (hS : ∀ k, S k → k < w.heap.size)
    (hg : g < w.heap.size) (hn : n = l.length) (hnil : A = none → n = 0) (hrd : RdB w B A l) (hB : B ≤ w.heap.size) (hok : OkB l) (hSB : ∀ i, S i → B ≤ i) (hgB : B ≤ g) (hvB : ∀ i, v.ownBlock = some i → B ≤ i)
    (ho : w'.ownsRow 0 37 1 v' (L.length + 1) (X.map rowC ++ [.slice A n c])) (hgr : w.grownBy w' v.ownBlock) (hb : v'.ownBlock = v.ownBlock ∨ v'.ownBlock = some w.heap.size) : RsS S w' g v' (L ++ [l]) := by
  have lt : ∀ a, A = some a → 0 < l.length → a.block < B := fun a ha h0 => by
    obtain ⟨b, o, e, hb, _⟩ := hrd h0
    rw [ha] at e
    injection e with e
    rw [e]; exact hb
  refine ⟨_, RsX.app hg hn hnil (hrd.more hB) hok (fun a ha h0 => ⟨Nat.zero_le _, fun e => by have := lt a ha h0; omega, fun e => by have := lt a ha h0; have := hvB _ e; omega⟩) hX ho hgr hb, fun i x l' a hx hl ha h0 hs => ?_, fun i hi hs => ?_⟩
  · by_cases hi : i < L.length
    · rw [List.getElem?_append_left (by rw [hX.len]; exact hi)] at hx
      rw [List.getElem?_append_left hi] at hl
      exact h1 i x l' a hx hl ha h0 hs
    · have hi2 := (List.getElem?_eq_some_iff.1 hl).1
      simp at hi2
      obtain rfl : i = L.length := by omega
      rw [List.getElem?_append_right (by rw [hX.len]; exact Nat.le_refl _), hX.len, Nat.sub_self] at hx
      rw [List.getElem?_append_right (Nat.le_refl _), Nat.sub_self] at hl
      simp at hx hl
      subst hx; subst hl
      have := lt a ha h0
      have := hSB _ hs
      omega
  · rcases hb with h' | h'
    · rw [h'] at hi; exact h2 i hi hs
    · rw [h'] at hi; injection hi with hi; have := hS i hs; omega
theorem own_vP {v v' : Value} {P : Nat → Prop} {n : Nat} (h : ∀ i, v.ownBlock = some i → P i) (hb : v'.ownBlock = v.ownBlock ∨ v'.ownBlock = some n) (hn : P n) : ∀ i, v'.ownBlock = some i → P i := fun i hi => by
  rcases hb with h' | h'
  · rw [h'] at hi; exact h i hi
  · rw [h'] at hi; injection hi with hi; rw [← hi]; exact hn
theorem joinR_take_le (L : List (List Nat)) (k : Nat) : (joinR (L.take k)).length ≤ (joinR L).length := by
  have : joinR L = joinR (L.take k) ++ joinR (L.drop k) := by rw [← joinR_append, List.take_append_drop]
  rw [this, List.length_append]
  omega
theorem tornF_full (b : List Nat) : tornF ⟨b, b.length⟩ 0 0 = ⟨b, b.length⟩ := by
  unfold tornF
  simp
theorem scanJ_full {R : List (List Nat)} (h : OkR R) : scanJ (joinR R) = (R, (joinR R).length) := by
  have := scanJ_join (r := []) h
  rw [List.append_nil] at this
  rw [this, scanJ_none (by rfl)]
  simp
theorem OkR.take {L : List (List Nat)} (h : OkR L) (k : Nat) : OkR (L.take k) := fun c hc => h c (List.mem_of_mem_take hc)
theorem OkR.app {L M : List (List Nat)} (h : OkR L) (h' : OkR M) : OkR (L ++ M) := fun c hc => (List.mem_append.1 hc).elim (h c) (h' c)
theorem joinR_step {G M : List (List Nat)} {k : Nat} {x : List Nat} (h : M[k]? = some x) : joinR (G ++ M.take (k + 1)) = joinR (G ++ M.take k) ++ laidR x := by
  rw [joinR_append, joinR_take h, joinR_append, List.append_assoc]
def Sml (L : List (List Nat)) : Prop := ∀ c ∈ L, c.length ≤ 100
theorem Sml.len : ∀ {L : List (List Nat)}, Sml L → (joinR L).length ≤ 108 * L.length
  | [], _ => by simp [joinR]
  | c :: L, h => by
    have h1 := h c List.mem_cons_self
    have h2 := Sml.len (L := L) fun x hx => h x (List.mem_cons_of_mem _ hx)
    rw [joinR_cons, List.length_append, laidR_length, List.length_cons]
    omega
theorem Sml.step {L : List (List Nat)} {k : Nat} {x : List Nat} (h : Sml (L.take k)) (hx : L[k]? = some x) (hl : x.length ≤ 100) : Sml (L.take (k + 1)) := fun c hc => by
  rw [List.take_add_one, hx] at hc
  rcases List.mem_append.1 hc with hc | hc
  · exact h c hc
  · simp at hc; subst hc; exact hl
theorem Sml.take {L : List (List Nat)} (h : Sml L) (k : Nat) : Sml (L.take k) := fun c hc => h c (List.mem_of_mem_take hc)
theorem Sml.app {L M : List (List Nat)} (h : Sml L) (h' : Sml M) : Sml (L ++ M) := fun c hc => (List.mem_append.1 hc).elim (h c) (h' c)
theorem Sml.okR {L : List (List Nat)} (h : Sml L) (ho : ∀ l ∈ L, OkB l) : OkR L := fun c hc => ⟨ho c hc, by have := h c hc; omega⟩
end Go.Proofs.Ytgcfofnlgdfmoaa
