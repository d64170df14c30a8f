/- A map of tiles that came in: its rows, where they lie. -/
import Derived.Test.YtbfffgnalopfbaaTilMem
import Derived.Test.YtbfffgnalopfbaaFlat
import Derived.Lib.SmallJoins
import Derived.ChangeMaps5
namespace Go.Proofs.Ytbfffgnalopfbaa
open Go.ChangeShapes Go.WideShapes Go.ChangeAt Go.RowKit
set_option linter.unusedVariables false

section
variable {H : Type} {enc : TypeId × Value → H} {P : Program} {w : World} {base : Nat} {spare : Nat → Bool} {held : Bool}
/-- a slice that lies in a struct -/
theorem flats_in {α : Type} {t e : TypeId} {d n : Nat} {ks : List Leaf} {v : Value} {x : DataW H × List MemPlace} (f : α → List Value)
    (ht : P.underlying t = some (.slice e)) (hf : flat P d e = some ks) (hc : P.cellsOf e = ks.length) (hpos : 0 < ks.length) (hk : ∀ cs, AllOk ks cs → ∃ a, cs = f a)
    (h : DataW.trod enc P w base spare held n t [v] = some x) :
    ∃ (oa : Option Addr) (cap : Nat) (l : List α), v = .slice oa l.length cap ∧ l.length ≤ maxLen ∧ l.length ≤ cap ∧ RowOf ks.length f oa l w ∧ ∀ a ∈ l, AllOk ks (f a) := by
  rcases Go.Deep.open_slice ht h with ⟨hcs, _⟩ | ⟨a, len, cap, m, n, D, Pl, hcs, hb, hl, hm, hmm, _, hel⟩
  · simp at hcs
    subst hcs
    exact ⟨none, 0, [], rfl, Nat.zero_le _, Nat.le_refl _, fun i a hi => by simp at hi, by simp⟩
  · simp at hcs
    subst hcs
    have hlm : len ≤ m := by rw [hmm]; split <;> omega
    have each : ∀ i, i < len → ∃ x : α, AllOk ks (f x) ∧ w.cells? base (a.add (i * ks.length)) ks.length = some (f x) := by
      intro i hi
      obtain ⟨cs', h1, h2⟩ := hel i (by omega)
      have ok := flat_ok hf h2
      obtain ⟨x, rfl⟩ := hk cs' ok
      rw [hc] at h1
      exact ⟨x, ok, h1⟩
    have all : ∀ k, k ≤ len → ∃ l : List α, l.length = k ∧ (∀ a ∈ l, AllOk ks (f a)) ∧ ∀ i x, l[i]? = some x → w.cells? base (a.add (i * ks.length)) ks.length = some (f x) := by
      intro k
      induction k with
      | zero => intro _; exact ⟨[], rfl, by simp, fun i x hi => by simp at hi⟩
      | succ k ih =>
        intro hk
        obtain ⟨l, hl, ho, hc⟩ := ih (by omega)
        obtain ⟨x, ox, hx⟩ := each k (by omega)
        refine ⟨l ++ [x], by simp [hl], ?_, ?_⟩
        · intro y hy
          rcases List.mem_append.1 hy with hy | hy
          · exact ho y hy
          · simp at hy; subst hy; exact ox
        · intro i y hi
          by_cases e : i < l.length
          · rw [List.getElem?_append_left e] at hi
            exact hc i y hi
          · rw [List.getElem?_append_right (by omega)] at hi
            have : i = k := by
              have := (List.getElem?_eq_some_iff.1 hi).1
              simp at this; omega
            subst this
            rw [hl, Nat.sub_self] at hi
            simp at hi
            subst hi
            exact hx
    obtain ⟨l, hll, ho, hcl⟩ := all len (Nat.le_refl _)
    refine ⟨some a, cap, l, by rw [hll], by omega, by omega, ?_, ho⟩
    intro i x hi
    have hcells := hcl i x hi
    obtain ⟨_, hlen, hcell⟩ := World.cells?_some hcells
    have hlt := World.cells?_block hcells hpos
    obtain ⟨ab, ao, spot⟩ := a
    have hspot : spot = none := by
      have hl0 : 0 < l.length := Nat.lt_of_le_of_lt (Nat.zero_le _) (List.getElem?_eq_some_iff.1 hi).1
      have hc0 := hcl 0 l[0] (List.getElem?_eq_getElem hl0)
      obtain ⟨_, hn0, hcell0⟩ := World.cells?_some hc0
      have h0 := hcell0 0 hpos
      rw [List.getElem?_eq_getElem (by omega)] at h0
      have := World.cell?_spot h0
      simpa [Addr.add] using this
    subst hspot
    have hblk : ab < w.heap.size := by
      rw [Addr.add_lit] at hlt
      exact hlt
    refine ⟨ab, ao, rfl, hblk, fun j u hu => ?_⟩
    have hj : j < ks.length := by rw [← hlen]; exact (List.getElem?_eq_some_iff.1 hu).1
    have := hcell j hj
    rw [Addr.add_lit, Addr.add_lit, hu] at this
    exact this
end

theorem tb_of (cs : List Value) (h : AllOk [.bool] cs) : ∃ a, cs = tbEnc a := by
  match cs, h with
  | [_], ⟨⟨b, rfl⟩, _⟩ => exact ⟨b, rfl⟩
theorem two_leaf {k : IntKind} {a b : Value} (ha : (Leaf.int k).ok a) (hb : (Leaf.int k).ok b) : ∃ p : Int × Int, a = .int k p.1 ∧ b = .int k p.2 := by
  obtain ⟨x, rfl, _⟩ := ha
  obtain ⟨y, rfl, _⟩ := hb
  exact ⟨(x, y), rfl, rfl⟩
theorem tv_of (cs : List Value) (h : AllOk [.int .i64, .int .i64] cs) : ∃ a, cs = tvEnc a := by
  have hl := h.length
  obtain ⟨c0, c1, rfl⟩ : ∃ c0 c1, cs = [c0, c1] := by
    match cs, hl with
    | [a, b], _ => exact ⟨a, b, rfl⟩
  obtain ⟨p, e1, e2⟩ := two_leaf h.1 h.2.1
  rw [e1, e2]
  exact ⟨p, rfl⟩
theorem i64_wf {a : Int} (h : (Lit.int .i64 a).wf = true) : -9223372036854775808 ≤ a ∧ a < 9223372036854775808 := by
  simp [Lit.wf, IntKind.min, IntKind.max, IntKind.bits, IntKind.signed] at h; omega
/-- a map that came in -/
structure MapIn (m : Ti.M) (oa : Option Addr) (ca : Nat) (ob : Option Addr) (cb : Nat) (w : World) : Prop where
  ws : RowOf 1 tbEnc oa m.ws w
  sp : RowOf 2 tvEnc ob m.sp w
  wW : -9223372036854775808 ≤ m.W ∧ m.W < 9223372036854775808
  wH : -9223372036854775808 ≤ m.H ∧ m.H < 9223372036854775808
  mw : m.ws.length ≤ maxLen
  ms : m.sp.length ≤ maxLen
theorem MapIn.at {m : Ti.M} {oa : Option Addr} {ca : Nat} {ob : Option Addr} {cb : Nat} {w : World} (h : MapIn m oa ca ob cb w) (h1 : m.ws.length ≤ 1100) (h2 : m.sp.length ≤ 1100) : MapAt m oa ob w :=
  ⟨h.ws, h.sp, h1, h2, h.wW, h.wH⟩
set_option maxRecDepth 20000 in
theorem open_map {H : Type} {enc : TypeId × Value → H} {W : World} {base : Nat} {v : Value} {d : DataW H} {p : List MemPlace}
    (hval : Value.okWide Try.prog W .any base 25 v) (h : DataW.Trod enc Try.prog W 0 (fun _ => true) true 25 v d p) :
    ∃ (m : Ti.M) (oa : Option Addr) (ca : Nat) (ob : Option Addr) (cb : Nat), v = mapVal m oa ca ob cb ∧ MapIn m oa ca ob cb W := by
  obtain ⟨v0, v1, v2, v3, y0, y1, y2, y3, n, rfl, _, _, g0, g1, g2, g3⟩ := Go.Joins.open_agg4 Try.underlying25 (by kernel_rfl) (by kernel_rfl) hval h
  obtain ⟨a0, e0, _, w0⟩ := DataW.trod_int Try.underlying3 g0
  obtain ⟨a1, e1, _, w1⟩ := DataW.trod_int Try.underlying3 g1
  obtain ⟨oa, ca, l, rfl, q1, q2, q3, _⟩ := flats_in (d := 8) (ks := [.bool]) tbEnc Try.underlying22 (by kernel_rfl) (by kernel_rfl) (by decide) tb_of g2
  obtain ⟨ob, cb, k, rfl, r1, r2, r3, _⟩ := flats_in (d := 8) (ks := [.int .i64, .int .i64]) tvEnc Try.underlying23 (by kernel_rfl) (by kernel_rfl) (by decide) tv_of g3
  simp at e0 e1
  subst e0 e1
  exact ⟨⟨a0, a1, l, k⟩, oa, ca, ob, cb, rfl, q3, r3, i64_wf w0, i64_wf w1, q1, r1⟩

end Go.Proofs.Ytbfffgnalopfbaa
