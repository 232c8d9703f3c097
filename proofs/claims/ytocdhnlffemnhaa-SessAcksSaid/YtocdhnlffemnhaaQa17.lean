/- Several texts in one: SsOpenF, HeldK. -/
import Derived.Deep.RegionHeld3
import Derived.Test.YtocdhnlffemnhaaQa6
import Derived.Test.YtocdhnlffemnhaaQa16
/- Layer 12: frames and times that come in: how they lie. -/
namespace Go.Proofs.Ytocdhnlffemnhaa
open Go.RowKit Go.ChangeShapes Go.WideShapes
/-- a frame as it comes in -/
structure OkFm (w : World) (y : Fm) : Prop where
  k : y.k < 256
  f : y.f < 256
  t : y.t < 256
  e : y.e < 18446744073709551616
  q : y.q < 18446744073709551616
  c : y.c < 18446744073709551616
  b : y.b < 18446744073709551616
  l : y.l < 18446744073709551616
  x : OkI y.x
  ln : y.x.l.length ≤ maxLen
  nil : y.A = none → y.x.l.length = 0
  rd : RdP w w.heap.size y.A y.x.l
section
variable {H : Type} {enc : TypeId × Value → H} {W : World} {base : Nat} {hd : Bool} {sp : Nat → Bool}
set_option maxRecDepth 100000 in
/-- cells that read as a frame -/
theorem frame_cells {fuel : Nat} {cs : List Value} {x : DataW H × List MemPlace} (hf : DataW.trod enc Try.prog W base sp hd fuel 32 cs = some x) :
    ∃ y : Fm, cs = frmC y ∧ OkFm W y := by
  have hc : Try.prog.cellsOf 32 = 21 := by kernel_rfl
  have k8 : Try.prog.cellsOf 5 = 1 := by kernel_rfl
  have k64 : Try.prog.cellsOf 22 = 1 := by kernel_rfl
  have kI : Try.prog.cellsOf 30 = 13 := by kernel_rfl
  obtain ⟨xs, n, _, hx, hl, hlen, hg⟩ := DataW.trod_struct Try.underlying32 hf
  rw [hc] at hl
  match cs, hl with
  | [c0, c1, c2, c3, c4, c5, c6, c7, c8, c9, c10, c11, c12, c13, c14, c15, c16, c17, c18, c19, c20], _ =>
    match xs, hlen with
    | [y0, y1, y2, y3, y4, y5, y6, y7, y8], _ =>
      have t0 : DataW.trod enc Try.prog W base sp hd n 5 (([c0, c1, c2, c3, c4, c5, c6, c7, c8, c9, c10, c11, c12, c13, c14, c15, c16, c17, c18, c19, c20].drop 0).take (Try.prog.cellsOf 5)) = some y0 := hg 0 _ rfl
      rw [k8] at t0
      have t1 : DataW.trod enc Try.prog W base sp hd n 5 (([c0, c1, c2, c3, c4, c5, c6, c7, c8, c9, c10, c11, c12, c13, c14, c15, c16, c17, c18, c19, c20].drop 1).take (Try.prog.cellsOf 5)) = some y1 := hg 1 _ rfl
      rw [k8] at t1
      have t2 : DataW.trod enc Try.prog W base sp hd n 5 (([c0, c1, c2, c3, c4, c5, c6, c7, c8, c9, c10, c11, c12, c13, c14, c15, c16, c17, c18, c19, c20].drop 2).take (Try.prog.cellsOf 5)) = some y2 := hg 2 _ rfl
      rw [k8] at t2
      have t3 : DataW.trod enc Try.prog W base sp hd n 22 (([c0, c1, c2, c3, c4, c5, c6, c7, c8, c9, c10, c11, c12, c13, c14, c15, c16, c17, c18, c19, c20].drop 3).take (Try.prog.cellsOf 22)) = some y3 := hg 3 _ rfl
      rw [k64] at t3
      have t4 : DataW.trod enc Try.prog W base sp hd n 22 (([c0, c1, c2, c3, c4, c5, c6, c7, c8, c9, c10, c11, c12, c13, c14, c15, c16, c17, c18, c19, c20].drop 4).take (Try.prog.cellsOf 22)) = some y4 := hg 4 _ rfl
      rw [k64] at t4
      have t5 : DataW.trod enc Try.prog W base sp hd n 30 (([c0, c1, c2, c3, c4, c5, c6, c7, c8, c9, c10, c11, c12, c13, c14, c15, c16, c17, c18, c19, c20].drop 5).take (Try.prog.cellsOf 30)) = some y5 := hg 5 _ rfl
      rw [kI] at t5
      have t6 : DataW.trod enc Try.prog W base sp hd n 22 (([c0, c1, c2, c3, c4, c5, c6, c7, c8, c9, c10, c11, c12, c13, c14, c15, c16, c17, c18, c19, c20].drop 18).take (Try.prog.cellsOf 22)) = some y6 := hg 6 _ rfl
      rw [k64] at t6
      have t7 : DataW.trod enc Try.prog W base sp hd n 22 (([c0, c1, c2, c3, c4, c5, c6, c7, c8, c9, c10, c11, c12, c13, c14, c15, c16, c17, c18, c19, c20].drop 19).take (Try.prog.cellsOf 22)) = some y7 := hg 7 _ rfl
      rw [k64] at t7
      have t8 : DataW.trod enc Try.prog W base sp hd n 22 (([c0, c1, c2, c3, c4, c5, c6, c7, c8, c9, c10, c11, c12, c13, c14, c15, c16, c17, c18, c19, c20].drop 20).take (Try.prog.cellsOf 22)) = some y8 := hg 8 _ rfl
      rw [k64] at t8
      obtain ⟨z0, e0, _, g0⟩ := DataW.trod_int Try.underlying5 t0
      obtain ⟨n0, rfl, h0⟩ := nat_of_u8 g0
      obtain rfl := (List.cons.inj e0).1
      obtain ⟨z1, e1, _, g1⟩ := DataW.trod_int Try.underlying5 t1
      obtain ⟨n1, rfl, h1⟩ := nat_of_u8 g1
      obtain rfl := (List.cons.inj e1).1
      obtain ⟨z2, e2, _, g2⟩ := DataW.trod_int Try.underlying5 t2
      obtain ⟨n2, rfl, h2⟩ := nat_of_u8 g2
      obtain rfl := (List.cons.inj e2).1
      obtain ⟨z3, e3, _, g3⟩ := DataW.trod_int Try.underlying22 t3
      obtain ⟨n3, rfl, h3⟩ := nat_of_u64 g3
      obtain rfl := (List.cons.inj e3).1
      obtain ⟨z4, e4, _, g4⟩ := DataW.trod_int Try.underlying22 t4
      obtain ⟨n4, rfl, h4⟩ := nat_of_u64 g4
      obtain rfl := (List.cons.inj e4).1
      obtain ⟨y, A, m, z, e5, hm, hml, hA, hok, hr⟩ := item_cells t5
      obtain ⟨z6, e6, _, g6⟩ := DataW.trod_int Try.underlying22 t6
      obtain ⟨n6, rfl, h6⟩ := nat_of_u64 g6
      obtain rfl := (List.cons.inj e6).1
      obtain ⟨z7, e7, _, g7⟩ := DataW.trod_int Try.underlying22 t7
      obtain ⟨n7, rfl, h7⟩ := nat_of_u64 g7
      obtain rfl := (List.cons.inj e7).1
      obtain ⟨z8, e8, _, g8⟩ := DataW.trod_int Try.underlying22 t8
      obtain ⟨n8, rfl, h8⟩ := nat_of_u64 g8
      obtain rfl := (List.cons.inj e8).1
      subst hm
      have e5' : [c5, c6, c7, c8, c9, c10, c11, c12, c13, c14, c15, c16, c17] = _ := e5
      simp only [List.cons.injEq, and_true] at e5'
      obtain ⟨rfl, rfl, rfl, rfl, rfl, rfl, rfl, rfl, rfl, rfl, rfl, rfl, rfl⟩ := e5'
      exact ⟨⟨n0, n1, n2, n3, n4, y, A, z, n6, n7, n8⟩, rfl, ⟨h0, h1, h2, h3, h4, h6, h7, h8, hok, hml, hA, hr⟩⟩
set_option maxRecDepth 100000 in
theorem open_frame {r : Reach} {b0 : Nat} {v : Value} {d : DataW H} {ps : List MemPlace}
    (hval : Value.okWide Try.prog W r b0 32 v) (h0 : DataW.Trod enc Try.prog W base sp hd 32 v d ps) :
    ∃ y : Fm, v = .agg (frmC y).toArray ∧ OkFm W y := by
  obtain ⟨cs, rfl, _⟩ := okWide_struct Try.underlying32 hval
  obtain ⟨fuel, hf⟩ := h0
  obtain ⟨y, h1, h2⟩ := frame_cells hf
  exact ⟨y, by
    have h1 : cs.toList = frmC y := h1
    rw [← h1], h2⟩
set_option maxRecDepth 100000 in
theorem open_times {r : Reach} {b0 : Nat} {v : Value} {d : DataW H} {ps : List MemPlace}
    (hval : Value.okWide Try.prog W r b0 40 v) (h0 : DataW.Trod enc Try.prog W base sp hd 40 v d ps) :
    ∃ (z : Int) (f m : Nat), v = .agg #[.int .i64 z, .int .u64 f, .int .u64 m] ∧ -9223372036854775808 ≤ z ∧ z < 9223372036854775808 ∧ f < 18446744073709551616 ∧ m < 18446744073709551616 := by
  obtain ⟨cs, rfl, _⟩ := okWide_struct Try.underlying40 hval
  obtain ⟨fuel, hf⟩ := h0
  have hc : Try.prog.cellsOf 40 = 3 := by kernel_rfl
  have kn : Try.prog.cellsOf 3 = 1 := by kernel_rfl
  have k64 : Try.prog.cellsOf 22 = 1 := by kernel_rfl
  obtain ⟨xs, n, _, hx, hl, hlen, hg⟩ := DataW.trod_struct Try.underlying40 hf
  rw [hc] at hl
  have hl : cs.toList.length = 3 := hl
  obtain ⟨c0, c1, c2, hcs⟩ : ∃ c0 c1 c2, cs = #[c0, c1, c2] := by
    obtain ⟨l⟩ := cs
    match l, hl with
    | [c0, c1, c2], _ => exact ⟨c0, c1, c2, rfl⟩
  subst hcs
  match xs, hlen with
  | [y0, y1, y2], _ =>
    have t0 : DataW.trod enc Try.prog W base sp hd n 3 (([c0, c1, c2].drop 0).take (Try.prog.cellsOf 3)) = some y0 := hg 0 _ rfl
    rw [kn] at t0
    have t1 : DataW.trod enc Try.prog W base sp hd n 22 (([c0, c1, c2].drop 1).take (Try.prog.cellsOf 22)) = some y1 := hg 1 _ rfl
    rw [k64] at t1
    have t2 : DataW.trod enc Try.prog W base sp hd n 22 (([c0, c1, c2].drop 2).take (Try.prog.cellsOf 22)) = some y2 := hg 2 _ rfl
    rw [k64] at t2
    obtain ⟨z0, e0, _, g0⟩ := DataW.trod_int Try.underlying3 t0
    obtain ⟨z1, e1, _, g1⟩ := DataW.trod_int Try.underlying22 t1
    obtain ⟨z2, e2, _, g2⟩ := DataW.trod_int Try.underlying22 t2
    obtain ⟨b1, b2⟩ := bounds_i64 g0
    obtain rfl := (List.cons.inj e0).1
    obtain ⟨n1, rfl, h1⟩ := nat_of_u64 g1
    obtain rfl := (List.cons.inj e1).1
    obtain ⟨n2, rfl, h2⟩ := nat_of_u64 g2
    obtain rfl := (List.cons.inj e2).1
    exact ⟨z0, n1, n2, rfl, b1, b2, h1, h2⟩
end
end Go.Proofs.Ytocdhnlffemnhaa
/- A region that draws its order, walked under one condition on the world that its last store (operation k) may end: the laws of Derived/OrdersHeld.lean with an operation behind which the condition need not hold. What is taken first must be something that k waits for (a path of edges says so). No program is named here. -/
namespace Go.Proofs.Ytocdhnlffemnhaa

section
variable {P : Program} {ops : Array Oper} {Q : Exit → Act → World → Prop} {md : Region.Mode} {S : World → Prop} {k : Nat}

def wpAnyK (P : Program) (md : Region.Mode) (ops : Array Oper) (Q : Exit → Act → World → Prop) (S : World → Prop) (k : Nat) : Nat → Array Bool → Act → World → Prop
  | 0, listed, a, w => Region.ready md ops listed = [] ∧ Q .normal a w
  | fuel + 1, listed, a, w =>
    (Region.ready md ops listed = [] → Q .normal a w) ∧
    ∀ i ∈ Region.ready md ops listed, wpOp P ops Q i (fun a' w' => (i ≠ k → S w') ∧ wpAnyK P md ops Q S k fuel (listed.setIfInBounds i true) a' w') a w

theorem wpAny_of_K : ∀ (fuel : Nat) (listed : Array Bool) (a : Act) (w : World), wpAnyK P md ops Q S k fuel listed a w → wpAny P md ops Q fuel listed a w
  | 0, _, _, _, h => h
  | fuel + 1, _, _, _, h => ⟨h.1, fun i hi => wpOp_mono (fun a' w' h' => wpAny_of_K fuel _ a' w' h'.2) (h.2 i hi)⟩

/-- what has come up has had all that it waits for come up before -/
def closedB (md : Region.Mode) (ops : Array Oper) (listed : Array Bool) : Bool :=
  (List.range ops.size).all fun j => !(listed.getD j false) || match ops[j]? with
    | none => true
    | some o => o.after.all fun e => !(Region.binds md e) || listed.getD e.on false
def Closed (md : Region.Mode) (ops : Array Oper) (listed : Array Bool) : Prop :=
  ∀ j oj, ops[j]? = some oj → listed.getD j false = true → ∀ e ∈ oj.after, Region.binds md e = true → listed.getD e.on false = true
theorem closed_of {listed : Array Bool} (h : closedB md ops listed = true) : Closed md ops listed := fun j oj hj hl e he hb => by
  have hlt : j < ops.size := (Array.getElem?_eq_some_iff.1 hj).1
  have h1 := List.all_eq_true.1 h j (List.mem_range.2 hlt)
  simp only [hl, hj, Bool.not_true, Bool.false_or] at h1
  have h2 := Array.all_eq_true_iff_forall_mem.1 h1 e he
  simpa [hb] using h2
theorem Closed.set {listed : Array Bool} (h : Closed md ops listed) {j : Nat} (hj : j ∈ Region.ready md ops listed) : Closed md ops (listed.setIfInBounds j true) := fun i oi hi hl e he hb => by
  by_cases hij : j = i
  · subst hij
    obtain ⟨_, o, ho, hall⟩ := mem_ready.1 hj
    rw [hi] at ho; injection ho with ho; subst ho
    exact getD_set_true (hall e he hb)
  · rw [getD_set_ne false hij] at hl
    exact getD_set_true (h i oi hi hl e he hb)

def pathB (md : Region.Mode) (ops : Array Oper) : List Nat → Bool
  | [] => true
  | [_] => true
  | a :: b :: r => (match ops[a]? with
    | none => false
    | some o => o.after.any fun e => Region.binds md e && e.on == b) && pathB md ops (b :: r)
theorem path_step {a b : Nat} {r : List Nat} (h : pathB md ops (a :: b :: r) = true) : (∃ o, ops[a]? = some o ∧ ∃ e ∈ o.after, Region.binds md e = true ∧ e.on = b) ∧ pathB md ops (b :: r) = true := by
  unfold pathB at h
  rw [Bool.and_eq_true] at h
  refine ⟨?_, h.2⟩
  have h1 := h.1
  cases ho : ops[a]? with
  | none => rw [ho] at h1; cases h1
  | some o =>
    rw [ho] at h1
    obtain ⟨i, hi, he⟩ := Array.any_eq_true.1 h1
    rw [Bool.and_eq_true, beq_iff_eq] at he
    exact ⟨o, rfl, o.after[i], Array.getElem_mem hi, he.1, he.2⟩
theorem path_listed {listed : Array Bool} (hc : Closed md ops listed) : ∀ {l : List Nat} {a : Nat}, pathB md ops (a :: l) = true → listed.getD a false = true → ∀ b ∈ l, listed.getD b false = true
  | [], _, _, _, _, hb => by cases hb
  | b :: r, a, h, ha, x, hx => by
    obtain ⟨⟨o, ho, e, he, hb, hon⟩, h2⟩ := path_step h
    have h3 := hc a o ho ha e he hb
    rw [hon] at h3
    rcases List.mem_cons.1 hx with rfl | hx
    · exact h3
    · exact path_listed hc h2 h3 x hx
theorem path_ready {listed : Array Bool} (hc : Closed md ops listed) {l : List Nat} (h : pathB md ops (k :: l) = true) (hk : k ∈ Region.ready md ops listed) : ∀ b ∈ l, listed.getD b false = true := by
  cases l with
  | nil => intro b hb; cases hb
  | cons b r =>
    intro x hx
    obtain ⟨⟨o, ho, e, he, hb, hon⟩, h2⟩ := path_step h
    obtain ⟨_, o', ho', hall⟩ := mem_ready.1 hk
    rw [ho] at ho'; injection ho' with ho'; subst ho'
    have h3 := hall e he hb
    rw [hon] at h3
    rcases List.mem_cons.1 hx with rfl | hx
    · exact h3
    · exact path_listed hc h2 h3 x hx

theorem wpAnyK_first {i : Nat} {oi : Oper} {v : Value} {l : List Nat} (hi : ops[i]? = some oi) (hsel : ∀ (j : Nat) (o : Oper) cs b, ops[j]? = some o → o.op ≠ .select cs b)
    (hQ : ∀ c a w, Q (.panic c) (a.put oi.dst v) w → Q (.panic c) a w) (hp : pathB md ops (k :: l) = true) (hil : i ∈ l) :
    ∀ (fuel : Nat) (listed : Array Bool) (a : Act) (w : World),
      (∀ j oj, ops[j]? = some oj → j ≠ i → listed.getD j true = false → (∀ e ∈ oj.after, Region.binds md e = true → e.on ≠ i) → oi.apart ops oj = true) →
      Closed md ops listed → i ∈ Region.ready md ops listed → YieldsIf P ops S oi v a → S w →
      wpAnyK P md ops Q S k fuel (listed.setIfInBounds i true) (a.put oi.dst v) w → wpAnyK P md ops Q S k (fuel + 1) listed a w := by
  intro fuel
  induction fuel with
  | zero =>
    intro listed a w _ _ hr hy hS H
    refine ⟨fun h => (by rw [h] at hr; cases hr), fun j hj => ?_⟩
    by_cases hji : j = i
    · subst hji; exact hy.wpOp hi hS ⟨fun _ => hS, H⟩
    · have := ready_mono hj hji
      rw [H.1] at this
      cases this
  | succ fuel ih =>
    intro listed a w hfree hc hr hy hS H
    refine ⟨fun h => (by rw [h] at hr; cases hr), fun j hj => ?_⟩
    by_cases hji : j = i
    · subst hji; exact hy.wpOp hi hS ⟨fun _ => hS, H⟩
    · have h1 := H.2 j (ready_mono hj hji)
      obtain ⟨hjun, oj, hoj, hall⟩ := mem_ready.1 hj
      have hun : ∀ {b : Bool}, listed.getD i b = true → False := fun {b} h1 => by
        have h0 := (mem_ready.1 hr).1
        rcases Nat.lt_or_ge i listed.size with h' | h'
        · simp [h'] at h0 h1; rw [h0] at h1; cases h1
        · simp [Array.getElem?_eq_none h'] at h0
      have hjk : j ≠ k := fun h => by
        subst h
        exact hun (path_ready hc hp hj i hil)
      have hnot : ∀ e ∈ oj.after, Region.binds md e = true → e.on ≠ i := fun e he hb heq => by
        have h1 := hall e he hb
        rw [heq] at h1
        exact hun h1
      have h2 := wpOp_putIf hoj (hfree j oj hoj hji hjun hnot) (fun cs b => hsel i oi cs b hi) (fun cs b => hsel j oj cs b hoj) hQ hy h1
      have hfree' : ∀ k ok, ops[k]? = some ok → k ≠ i → (listed.setIfInBounds j true).getD k true = false →
          (∀ e ∈ ok.after, Region.binds md e = true → e.on ≠ i) → oi.apart ops ok = true := fun k ok hk hki hun hno => by
        refine hfree k ok hk hki ?_ hno
        by_cases hjk : j = k
        · subst hjk; exact hjun
        · rw [getD_set_ne true hjk] at hun; exact hun
      refine wpOp_mono (fun a' w' h3 => ⟨h3.2.1, ih (listed.setIfInBounds j true) a' w' hfree' (hc.set hj) (ready_mono hr (Ne.symm hji)) h3.1 (h3.2.1 hjk) ?_⟩) h2
      rw [Array.setIfInBounds_comm _ _ hji]
      exact h3.2.2

theorem keepTake {i : Nat} {oi : Oper} {v : Value} {fuel : Nat} {listed : Array Bool} {a : Act} {w : World} (l : List Nat) (hi : ops.toList[i]? = some oi)
    (hs : Region.noSelect ops = true) (hf : Region.free md ops listed i = true) (hr : (Region.ready md ops listed).contains i = true)
    (hp : pathB md ops (k :: l) = true) (hil : l.contains i = true) (hc : closedB md ops listed = true)
    (hQ : ∀ c a w, Q (.panic c) (a.put oi.dst v) w → Q (.panic c) a w) (hy : YieldsIf P ops S oi v a) (hS : S w)
    (h : wpAnyK P md ops Q S k fuel (listed.setIfInBounds i true) (a.put oi.dst v) w) : wpAnyK P md ops Q S k (fuel + 1) listed a w :=
  wpAnyK_first (by rw [← Array.getElem?_toList]; exact hi) (Region.noSelect_spec hs) hQ hp (by simpa using hil) fuel listed a w (Region.free_spec (by rw [← Array.getElem?_toList]; exact hi) hf) (closed_of hc) (by simpa using hr) hy hS h

def AllReadyK (P : Program) (md : Region.Mode) (ops : Array Oper) (Q : Exit → Act → World → Prop) (S : World → Prop) (k fuel : Nat) (listed : Array Bool) (a : Act) (w : World) (rs : List Nat) : Prop :=
  ∀ i ∈ rs, wpOp P ops Q i (fun a' w' => (i ≠ k → S w') ∧ wpAnyK P md ops Q S k fuel (listed.setIfInBounds i true) a' w') a w
theorem AllReadyK.nil {fuel : Nat} {listed : Array Bool} {a : Act} {w : World} : AllReadyK P md ops Q S k fuel listed a w [] := fun _ h => by cases h
theorem AllReadyK.cons {fuel : Nat} {listed : Array Bool} {a : Act} {w : World} {i : Nat} {o : Oper} {rs : List Nat} (ho : ops.toList[i]? = some o)
    (h : ∀ K' : Act → World → Prop, Shut (∀ a w, S w → (S w → wpAnyK P md ops Q S k fuel (listed.setIfInBounds i true) a w) → K' a w) → if Region.wanted o (yielded ops a.tmps) = true then Oper.wp P o a w K' Q else K' (a.put o.dst undef) w)
    (hs : AllReadyK P md ops Q S k fuel listed a w rs) : AllReadyK P md ops Q S k fuel listed a w (i :: rs) := fun j hj => by
  rcases List.mem_cons.1 hj with rfl | hj
  · exact wpOp_step (by rw [← Array.getElem?_toList]; exact ho) (fun K' hK => h K' (fun a w hS hW => hK a w ⟨fun _ => hS, hW hS⟩))
  · exact hs j hj
theorem keepAll {rs : List Nat} {fuel : Nat} {listed : Array Bool} {a : Act} {w : World} (hr : Region.ready md ops listed = rs) (hne : rs ≠ [])
    (h : AllReadyK P md ops Q S k fuel listed a w rs) : wpAnyK P md ops Q S k (fuel + 1) listed a w :=
  ⟨fun h0 => absurd (hr ▸ h0) hne, hr ▸ h⟩
/-- operation k itself, alone: behind it nothing is asked of the world -/
theorem keepLast {o : Oper} {fuel : Nat} {listed : Array Bool} {a : Act} {w : World} (ho : ops.toList[k]? = some o) (hr : Region.ready md ops listed = [k])
    (h : ∀ K' : Act → World → Prop, Shut (∀ a w, wpAnyK P md ops Q S k fuel (listed.setIfInBounds k true) a w → K' a w) → if Region.wanted o (yielded ops a.tmps) = true then Oper.wp P o a w K' Q else K' (a.put o.dst undef) w) :
    wpAnyK P md ops Q S k (fuel + 1) listed a w := keepAll hr (by simp) (fun j hj => by
  rw [List.mem_singleton] at hj
  subst hj
  exact wpOp_step (by rw [← Array.getElem?_toList]; exact ho) (fun K' hK => h K' (fun a w hW => hK a w ⟨fun hn => absurd rfl hn, hW⟩)))
theorem keepDone {listed : Array Bool} {a : Act} {w : World} (hr : Region.ready md ops listed = []) (h : Q .normal a w) :
    ∀ fuel, wpAnyK P md ops Q S k fuel listed a w
  | 0 => ⟨hr, h⟩
  | _ + 1 => ⟨fun _ => h, by rw [hr]; simp⟩
theorem keepBegin {id : Nat} {a : Act} {w : World} (k : Nat) (hm : P.follows .mixedOrders = true) (hS : S w.drew)
    (h : S w.drew → wpAnyK P .any ops Q S k ops.size (Array.replicate ops.size false) a w.drew) : (Code.region id ops true).wp P Q a w :=
  wp_region_any hm (wpAny_of_K _ _ _ _ (h hS))
theorem keepPut (l : List Value) (ds : List Deferred) (d : Nat) (v : Value) : Act.put { tmps := l.toArray, defers := ds } (some d) v = { tmps := (l.set d v).toArray, defers := ds } := by
  simp [Act.put]
end
end Go.Proofs.Ytocdhnlffemnhaa
