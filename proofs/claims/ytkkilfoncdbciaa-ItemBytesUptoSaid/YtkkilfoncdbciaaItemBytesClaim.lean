/- For every item, small numbers and bytes of bulk at most 1048576: item.Encode gives the bytes that the document gives, and item.Size their number; an item that may be is taken back as it was, another one is an error; bytes that are taken are those of an item that may be (watchfirelaw04.ItemBytes returns true). Condition: the arguments hold together at most 1048576 values and letters. -/
import Derived.Test.YtkkilfoncdbciaaItOpen
import Derived.Test.YtkkilfoncdbciaaItemBytes
namespace Go.Proofs.Ytkkilfoncdbciaa.itemBytes
open Go.ChangeShapes Go.WideShapes Go.ChangeAt Go.RowKit
open Go.ChangeMaps (open_string shut_string)
open Go.Proofs.Ytkkilfoncdbciaa

theorem size_bulk {H : Type} : ∀ {l : List Pr} {p : Pr}, p ∈ l → p.1.size + p.2.size ≤ Rows.uptoBulkAll (l.map (dP (H := H)))
  | q :: l, p, h => by
    simp only [List.map_cons, Rows.uptoBulkAll, dP, Rows.uptoBulk]
    rcases List.mem_cons.1 h with rfl | h
    · have h1 : p.1.data.toList.length = p.1.size := Array.length_toList
      have h2 : p.2.data.toList.length = p.2.size := Array.length_toList
      omega
    · have h3 := size_bulk (H := H) h
      omega
theorem labs_bulk {H : Type} : ∀ (l : List Pr), (∀ p ∈ l, p.1.size ≤ 1048576 ∧ p.2.size ≤ 1048576) → (labsB l).length ≤ Rows.uptoBulkAll (l.map (dP (H := H))) + 20 * l.length
  | [], _ => Nat.zero_le _
  | q :: l, h => by
    have ih := labs_bulk (H := H) l fun p hp => h p (List.mem_cons_of_mem _ hp)
    have hq := h q List.mem_cons_self
    have k1 := leb_le10 (n := q.1.size) (by omega)
    have k2 := leb_le10 (n := q.2.size) (by omega)
    have h1 : q.1.data.toList.length = q.1.size := Array.length_toList
    have h2 : q.2.data.toList.length = q.2.size := Array.length_toList
    have e : (labsB (q :: l)).length = (textB q.1).length + (textB q.2).length + (labsB l).length := by
      simp only [labsB, List.length_append]
    rw [e, textB_length, textB_length]
    simp only [List.map_cons, Rows.uptoBulkAll, dP, Rows.uptoBulk, List.length_cons]
    omega
theorem item_bulk {x : It} (hx : OkI x) {K : Nat} (hr : x.r.size ≤ 1048576) (hK : (labsB x.l).length ≤ K) (hl : x.l.length ≤ 1048576) (hs : x.r.size + K ≤ 1900000) : (itemB x).length ≤ 1999000 := by
  have k1 := leb_le10 hx.q
  have k2 := leb_le10 hx.t
  have k3 := leb_le10 (n := x.r.size) (by omega)
  have k4 := leb_le10 (n := x.l.length) (by omega)
  have k5 := leb_le10 (zig_lt hx.v0 hx.v1)
  have k6 := leb_le10 hx.gf
  have k7 := leb_le10 hx.gt
  unfold itemB gapB evB headB tailB
  split <;> simp only [List.length_cons, List.length_append, List.length_nil, textB_length] <;> omega

theorem params_ : ∀ t ∈ Try.f4.params.toList, Try.prog.readableRec t = true ∧ t < Try.prog.types.size := by
  rw [Try.params4]
  intro t ht
  simp at ht
  rcases ht with rfl | rfl | rfl
  · exact ⟨by kernel_rfl, of_decide_eq_true (by kernel_rfl)⟩
  · exact ⟨by kernel_rfl, of_decide_eq_true (by kernel_rfl)⟩
  · exact ⟨by kernel_rfl, of_decide_eq_true (by kernel_rfl)⟩

set_option maxRecDepth 100000 in
theorem contract (H : Type) (enc : TypeId × Value → H) (W : World) (base : Nat) (args : Array Value) (ds gs : List (DataW H)) (before : List MemPlace)
    (hval : ∀ (j : Nat) t v, Try.f4.params[j]? = some t → args[j]? = some v → Value.okWide Try.prog W .any base t v)
    (hW : DataW.Whole enc Try.prog Try.f4.params.toList Rows.itemBytesSpec.vars false W args.toList ds gs before) (hk : Rows.uptoSmall H (ds ++ gs) = true) :
    Calls Try.prog 4 args W fun e W' => ∃ v, e = .returned v ∧ Rows.itemBytesSpec.post enc Try.prog Try.f4 false true false false W args v W' := by
  have hW' := hW
  obtain ⟨p, q, hA0, hV, rfl, hfz, hnd⟩ := hW
  have hA : DataW.TrodAll enc Try.prog W 0 (fun _ => true) true Try.f4.params.toList args.toList ds p := hA0
  rw [Try.params4] at hA hval
  obtain ⟨v0, vs0, d0, ds0, p0, q0, hargs, rfl, rfl, h0, r0⟩ := trodAll_cons hA
  obtain ⟨v1, vs1, d1, ds1, p1, q1, hargs1, rfl, rfl, h1, r1⟩ := trodAll_cons r0
  obtain ⟨v2, vs2, d2, ds2, p2, q2, hargs2, rfl, rfl, h2, r2⟩ := trodAll_cons r1
  obtain ⟨rfl, rfl, rfl⟩ := trodAll_nil r2
  subst hargs2
  subst hargs1
  obtain rfl : args = #[v0, v1, v2] := by cases args; simp_all
  obtain ⟨rfl, rfl⟩ := trodVars_none hV
  obtain ⟨x0, A0, n0, c0, rfl, hn0, hm0, hnA0, hok0, hr0, b0, b1, b2, b3, b5, b6, b7, b8, b9, dL, hd0, hdL⟩ := open_item (hval 0 30 v0 rfl rfl) h0
  obtain ⟨s1, rfl, hs1⟩ := open_small (hval 1 33 v1 rfl rfl) h1
  obtain ⟨A2, n2, c2, l2, rfl, hn2, hx2, hnil2, hr2, hok2, hcap2⟩ := open_bytes (hval 2 41 v2 rfl rfl) h2
  have hb := of_decide_eq_true hk
  have hbulk : x0.r.size ≤ 1048576 ∧ (∀ p ∈ x0.l, p.1.size ≤ 1048576 ∧ p.2.size ≤ 1048576) ∧ x0.r.size + (labsB x0.l).length ≤ 1048576 + 20 * x0.l.length := by
    have h3 : x0.r.data.toList.length = x0.r.size := Array.length_toList
    rw [List.append_nil, hd0] at hb
    simp only [Rows.uptoBulkAll, Rows.uptoBulk] at hb
    rcases hdL with ⟨_, rfl, hl⟩ | ⟨spare, rfl⟩
    · rw [hl]
      refine ⟨by omega, fun p hp => (by cases hp), ?_⟩
      show x0.r.size + 0 ≤ _
      omega
    · simp only [Rows.uptoBulk] at hb
      have hsz : ∀ p ∈ x0.l, p.1.size ≤ 1048576 ∧ p.2.size ≤ 1048576 := fun p hp => by
        have := size_bulk (H := H) hp
        constructor <;> omega
      have hlb := labs_bulk (H := H) x0.l hsz
      exact ⟨by omega, hsz, by omega⟩
  have hS : ShortI x0 := ⟨hbulk.1, fun i p hp => hbulk.2.1 p (List.mem_of_getElem? hp)⟩
  refine (walk x0 A0 n0 c0 hok0 hn0 hS (fun h20 => item_bulk hok0 hbulk.1 (Nat.le_refl _) (by omega) (by have := hbulk.2.2; omega)) s1 hs1 A2 n2 c2 l2 hn2 hnil2 hok2 W hr0 hr2).mono fun e W' ⟨he, hb⟩ => ⟨_, he, law_post params_ rfl rfl rfl hW' hb⟩

set_option maxRecDepth 100000 in
theorem lifted (os : Os) (started : os.Started) (H : Type) (enc : TypeId × Value → H) (F : Stop.Interp) :
    ReturnsInHanded {} Try.checked os 4 .any ((Rows.OpenSpec.upto Rows.itemBytesSpec).pre6 enc Try.prog Try.f4 Rows.itemBytesUptoRow.domain false) (((Rows.OpenSpec.upto Rows.itemBytesSpec).at F).post enc Try.prog Try.f4 false true false false) := by
  refine returnsInHanded_of_cond (C := Try.checked) (s := Rows.OpenSpec.upto Rows.itemBytesSpec) (k := Rows.uptoSmall) rfl ownKnob_ started (by kernel_rfl) Try.func4
    (OpenSpec.witness (enc := enc) (C := Try.checked) (s := Rows.OpenSpec.upto Rows.itemBytesSpec) (k := Rows.uptoSmall) rfl false ⟨#[], #[.agg #[.bool false, .int .u8 0, .int .u64 0, .int .u64 0, .string ⟨#[]⟩, .slice none 0 0, .int .u8 0, .int .u8 0, .int .i64 0, .int .u8 0, .int .u8 0, .int .u64 0, .int .u64 0], .agg #[.bool false, .int .u8 0, .int .u8 0, .int .u8 0, .int .u16 0, .int .u16 0, .int .u16 0, .int .u8 0, .int .u8 0, .int .u8 0, .bool false], .slice none 0 0], []⟩ 8 (by kernel_rfl) (by kernel_rfl) (by kernel_rfl)
      (x := ([.agg [.lit (.bool false), .agg [.lit (.int .u8 0), .lit (.int .u64 0), .lit (.int .u64 0), .lit (.string []), .nil, .lit (.int .u8 0), .lit (.int .u8 0), .lit (.int .i64 0), .lit (.int .u8 0)], .agg [.lit (.int .u8 0), .lit (.int .u64 0), .lit (.int .u64 0)]], .agg [.lit (.bool false), .lit (.int .u8 0), .lit (.int .u8 0), .lit (.int .u8 0), .lit (.int .u16 0), .lit (.int .u16 0), .lit (.int .u16 0), .lit (.int .u8 0), .lit (.int .u8 0), .lit (.int .u8 0), .lit (.bool false)], .nil], [], [])) (by kernel_rfl) rfl (by kernel_rfl)) ?_
  intro W base args ds gs before hval hW _ hk _
  exact contract H enc W base args ds gs before hval hW hk

theorem said : Rows.ItemBytesUptoSaid :=
  OpenClaim.holds_of_cond 4 Try.f4 rfl rfl rfl rfl rfl rfl rfl ⟨rfl, rfl, rfl, rfl, rfl⟩ rfl rfl rfl rfl rfl (by kernel_rfl) Try.func4 (by kernel_rfl)
    (of_decide_eq_true (by kernel_rfl)) (by unfold Func.isWrapper; first | (rw [if_pos (by decide +kernel)]; kernel_rfl) | (rw [if_neg (by decide +kernel)]; exact ⟨rfl, rfl⟩))
    (fun os started H enc _ F => lifted os started H enc F)
end Go.Proofs.Ytkkilfoncdbciaa.itemBytes
