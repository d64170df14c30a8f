/- A map's text of up to 5000 bytes that is cut is refused at its end or at the sign that is cut, but behind a line that ends with a spawn ahead it is read. -/
import Derived.Test.YtecjfenpdpdanaaRows
import Derived.Test.YtecjfenpdpdanaaTilLaw2
import Derived.Test.YtecjfenpdpdanaaFlat
import Derived.WalkKit
import Derived.ProofKit
import Derived.OpenShut
import Derived.ChangeOld
import Derived.Below
import Derived.WalkSmall
import Derived.Lib.SmallJoins
import Derived.Laws.IdiomArrays
namespace Go.Proofs.Ytecjfenpdpdanaa.tilesCuts
open Go.ChangeShapes Go.WideShapes Go.ChangeAt Go.RowKit
set_option linter.unusedVariables false

theorem own : ownKnob Try.prog.godebug = none := by kernel_rfl
theorem laidOut : laidOutB Try.prog = true := by kernel_rfl

set_option maxRecDepth 20000 in
set_option maxHeartbeats 8000000 in
theorem walk (a0 : ByteArray) (a1 : Int) (w0 : a0.size ≤ maxLen) (w1 : (Lit.int .u16 a1).wf = true) (w : World) :
    Calls Try.prog 7 #[.string a0, .int .u16 a1] w fun e w' => e = .returned (.bool true) ∧ Below w.heap.size w w' := by
  have kA := TiL.awake_any
  unfold maxLen at w0
  have HT0 : Turned [] w w := Turned.refl _ _
  by_cases hsz : (a0.size : Int) ≤ 5000
  · have kr1 := fun u => TiW.read_any a0 (by omega) u
    unfold TiR.Answers at kr1
    cases hrd : (Ti.read a0.data.toList).1 with
    | none =>
      obtain ⟨m, hm⟩ : ∃ m, m = Ti.ansM (Ti.read a0.data.toList) := ⟨_, rfl⟩
      obtain ⟨n, hn⟩ : ∃ n, n = Ti.ansN (Ti.read a0.data.toList) := ⟨_, rfl⟩
      have hE : Ti.ansE (Ti.read a0.data.toList) = 2 := by unfold Ti.ansE; rw [hrd]
      rw [← hm, ← hn, hE] at kr1
      obtain ⟨nw, hnw⟩ : ∃ n, n = m.ws.length := ⟨_, rfl⟩
      obtain ⟨ns, hns⟩ : ∃ n, n = m.sp.length := ⟨_, rfl⟩
      unfold mapVal at kr1
      rw [← hnw, ← hns] at kr1
      clear hm hn hE hnw hns hrd
      go_enter Try.func7, Try.ntmps7
      go_wp2_with (first | (go_at_call 10; (with_reducible refine (kA _).mono ?_); rintro e u0 ⟨rfl, HT1⟩; have HT0 := HT0.trans HT1 (by simp)) | (go_at_call 11; (with_reducible refine (kr1 _).mono ?_); rintro e u1 ⟨oa, ca, ob, cb, rfl, _, _, _, HT1⟩; have HT0 := (HT0.trans HT1 (by simp)).alloc (.cells #[.int .i64 m.W, .int .i64 m.H, .slice oa nw ca, .slice ob ns cb] 26)))
      go_ret
      exact ⟨rfl, HT0.none⟩
    | some st =>
      have hread : Ti.read a0.data.toList = (some st, (Ti.read a0.data.toList).2) := by rw [← hrd]
      have hpos : 1 ≤ a0.size := by
        have hne : a0.data.toList ≠ [] := by
          intro e
          rw [e] at hrd
          cases hrd
        have := List.length_pos_iff.2 hne
        exact this
      have hu := TiL.u16_in w1
      obtain ⟨k, hk, hkl⟩ := TiL.tmod_in hu.1 hpos
      have hcut := Ti.read_cut hread (k := k) hkl
      have hext : (a0.extract 0 k).data.toList = a0.data.toList.take k := by
        have := cut_eq a0 0 k
        rw [Nat.zero_add, ByteArray.toList_eq] at this
        exact this
      have hesz : ((a0.extract 0 k).size : Int) ≤ 5000 := by
        have : (a0.extract 0 k).data.toList.length ≤ k := by rw [hext, List.length_take]; omega
        have e : (a0.extract 0 k).size = (a0.extract 0 k).data.toList.length := rfl
        omega
      obtain ⟨m, hm⟩ : ∃ m, m = Ti.ansM (Ti.read a0.data.toList) := ⟨_, rfl⟩
      obtain ⟨n, hn⟩ : ∃ n, n = Ti.ansN (Ti.read a0.data.toList) := ⟨_, rfl⟩
      have hE : Ti.ansE (Ti.read a0.data.toList) = 0 := by unfold Ti.ansE; rw [hrd]
      rw [← hm, ← hn, hE] at kr1
      have kr2 := fun u => TiW.read_any (a0.extract 0 k) (by omega) u
      unfold TiR.Answers at kr2
      rw [hext] at kr2
      obtain ⟨m2, hm2⟩ : ∃ m, m = Ti.ansM (Ti.read (a0.data.toList.take k)) := ⟨_, rfl⟩
      rw [← hm2] at kr2
      obtain ⟨nw, hnw⟩ : ∃ n, n = m.ws.length := ⟨_, rfl⟩
      obtain ⟨ns, hns⟩ : ∃ n, n = m.sp.length := ⟨_, rfl⟩
      obtain ⟨nw2, hnw2⟩ : ∃ n, n = m2.ws.length := ⟨_, rfl⟩
      obtain ⟨ns2, hns2⟩ : ∃ n, n = m2.sp.length := ⟨_, rfl⟩
      unfold mapVal at kr1 kr2
      rw [← hnw, ← hns] at kr1
      rw [← hnw2, ← hns2] at kr2
      clear hm hn hE hnw hns hrd hread hm2 hnw2 hns2 hext hesz
      rcases hcut with ⟨s', h1, h2, h3⟩ | ⟨h1, h2, h3⟩
      · have hE2 : Ti.ansE (Ti.read (a0.data.toList.take k)) = 0 := by unfold Ti.ansE; rw [h1]
        obtain ⟨n2, hn2⟩ : ∃ n, n = Ti.ansN (Ti.read (a0.data.toList.take k)) := ⟨_, rfl⟩
        rw [← hn2, hE2] at kr2
        have hb : ∀ (h : k - 1 < a0.size), (((a0[k - 1]'h).toNat : Int) == 10) = true := by
          intro h
          rw [List.getElem?_eq_getElem (by exact h)] at h3
          have e : a0[k - 1]'h = 10 := Option.some.inj h3
          rw [e]
          rfl
        clear h1 hn2 hE2 h3
        go_enter Try.func7, Try.ntmps7
        go_wp2_with (first | (go_at_call 10; (with_reducible refine (kA _).mono ?_); rintro e u0 ⟨rfl, HT1⟩; have HT0 := HT0.trans HT1 (by simp)) | (go_at_call_of 11 (Value.string a0); (with_reducible refine (kr1 _).mono ?_); rintro e u1 ⟨oa, ca, ob, cb, rfl, _, _, _, HT1⟩; have HT0 := (HT0.trans HT1 (by simp)).alloc (.cells #[.int .i64 m.W, .int .i64 m.H, .slice oa nw ca, .slice ob ns cb] 26)) | (go_at_call 11; (with_reducible refine (kr2 _).mono ?_); rintro e u1 ⟨oa, ca, ob, cb, rfl, _, _, _, HT1⟩; have HT0 := (HT0.trans HT1 (by simp)).alloc (.cells #[.int .i64 m2.W, .int .i64 m2.H, .slice oa nw2 ca, .slice ob ns2 cb] 26)))
        go_ret
        exact ⟨rfl, HT0.none⟩
      · have hE2 : Ti.ansE (Ti.read (a0.data.toList.take k)) = 2 := by unfold Ti.ansE; rw [h1]
        have hN2 : Ti.ansN (Ti.read (a0.data.toList.take k)) = (Ti.read (a0.data.toList.take k)).2 := by unfold Ti.ansN; rw [h1]
        obtain ⟨n2, hn2⟩ : ∃ n, n = (Ti.read (a0.data.toList.take k)).2 := ⟨_, rfl⟩
        rw [hN2, ← hn2, hE2] at kr2
        rw [← hn2] at h2 h3
        clear h1 hn2 hE2 hN2
        by_cases hq : (n2 : Int) = (k : Int)
        · go_enter Try.func7, Try.ntmps7
          go_wp2_with (first | (go_at_call 10; (with_reducible refine (kA _).mono ?_); rintro e u0 ⟨rfl, HT1⟩; have HT0 := HT0.trans HT1 (by simp)) | (go_at_call_of 11 (Value.string a0); (with_reducible refine (kr1 _).mono ?_); rintro e u1 ⟨oa, ca, ob, cb, rfl, _, _, _, HT1⟩; have HT0 := (HT0.trans HT1 (by simp)).alloc (.cells #[.int .i64 m.W, .int .i64 m.H, .slice oa nw ca, .slice ob ns cb] 26)) | (go_at_call 11; (with_reducible refine (kr2 _).mono ?_); rintro e u1 ⟨oa, ca, ob, cb, rfl, _, _, _, HT1⟩; have HT0 := (HT0.trans HT1 (by simp)).alloc (.cells #[.int .i64 m2.W, .int .i64 m2.H, .slice oa nw2 ca, .slice ob ns2 cb] 26)))
          go_ret
          exact ⟨rfl, HT0.none⟩
        · have hq1 : (n2 : Int) < (k : Int) := by omega
          have hq2 : (k : Int) - (n2 : Int) < 4 := by omega
          go_enter Try.func7, Try.ntmps7
          go_wp2_with (first | (go_at_call 10; (with_reducible refine (kA _).mono ?_); rintro e u0 ⟨rfl, HT1⟩; have HT0 := HT0.trans HT1 (by simp)) | (go_at_call_of 11 (Value.string a0); (with_reducible refine (kr1 _).mono ?_); rintro e u1 ⟨oa, ca, ob, cb, rfl, _, _, _, HT1⟩; have HT0 := (HT0.trans HT1 (by simp)).alloc (.cells #[.int .i64 m.W, .int .i64 m.H, .slice oa nw ca, .slice ob ns cb] 26)) | (go_at_call 11; (with_reducible refine (kr2 _).mono ?_); rintro e u1 ⟨oa, ca, ob, cb, rfl, _, _, _, HT1⟩; have HT0 := (HT0.trans HT1 (by simp)).alloc (.cells #[.int .i64 m2.W, .int .i64 m2.H, .slice oa nw2 ca, .slice ob ns2 cb] 26)))
          go_ret
          exact ⟨rfl, HT0.none⟩
  · go_enter Try.func7, Try.ntmps7
    go_wp2_with (go_at_call 10; (with_reducible refine (kA _).mono ?_); rintro e u0 ⟨rfl, HT1⟩; have HT0 := HT0.trans HT1 (by simp))
    go_ret
    exact ⟨rfl, HT0.none⟩

set_option maxRecDepth 100000 in
theorem lifted (os : Os) (started : os.Started) (H : Type) (enc : TypeId × Value → H) :
    ReturnsInHanded {} Try.checked os 7 .any (Rows.tilesCutsSpec.pre6 enc Try.prog Try.f7 Rows.tilesCutsRow.domain false) (Rows.tilesCutsSpec.post enc Try.prog Try.f7 false true false false) := by
  refine returnsInHanded_of_change (C := Try.checked) own started (by kernel_rfl) Try.func7
    (ChangeSpec.witness6 (enc := enc) (C := Try.checked) false ⟨#[], #[.string ⟨#[]⟩, .int .u16 0], []⟩ 8 (by kernel_rfl) (by kernel_rfl) (by kernel_rfl) (by kernel_rfl)) ?_
  intro W base args ds gs before hval0 hW hcnd _
  have hval : ∀ (j : Nat) t v, Try.f7.params[j]? = some t → args[j]? = some v → Value.okWide Try.prog W .any base t v := hval0
  have hW' := hW
  obtain ⟨p, q, hA0, hV, rfl, hfz, hnd⟩ := hW
  have hA : DataW.TrodAll enc Try.prog W 0 (fun _ => true) true Try.f7.params.toList args.toList ds p := hA0
  rw [Try.params7] at hA hval
  obtain ⟨v0, vs0, d0, ds0, p0, q0, hargs, rfl, rfl, h0, r0⟩ := trodAll_cons hA
  obtain ⟨v1, vs1, d1, ds1, p1, q1, rfl, rfl, rfl, h1, r1⟩ := trodAll_cons r0
  obtain ⟨rfl, rfl, rfl⟩ := trodAll_nil r1
  obtain rfl : args = #[v0, v1] := by cases args; simp_all
  obtain ⟨rfl, rfl⟩ := trodVars_none hV
  have k0 := h0
  have lt0 : ∀ x ∈ p0, x.block < W.heap.size := by obtain ⟨m, hm⟩ := k0; exact DataW.trod_lt m _ _ _ hm
  have k1 := h1
  have lt1 : ∀ x ∈ p1, x.block < W.heap.size := by obtain ⟨m, hm⟩ := k1; exact DataW.trod_lt m _ _ _ hm
  obtain ⟨a0, rfl, _, _, w0⟩ := Go.ChangeMaps.open_string Try.underlying9 (hval 0 9 v0 rfl rfl) h0
  obtain ⟨a1, rfl, _, _, w1⟩ := open_int Try.underlying51 (hval 1 51 v1 rfl rfl) h1
  clear hA0 hval0
  refine (walk a0 a1 w0 w1 W).mono fun e W' ⟨he, bel⟩ => ?_
  subst he
  exact ⟨_, rfl, _, _, _, [], _, [], hW', trodAll_mk1 (shut_bool Try.underlying4 _), (trodAll_cons_mk (Below.trod laidOut (by kernel_rfl) (of_decide_eq_true (by kernel_rfl)) k0 bel lt0) (trodAll_cons_mk (Below.trod laidOut (by kernel_rfl) (of_decide_eq_true (by kernel_rfl)) k1 bel lt1) trodAll_mk0)), rfl, bel.frame _, fun h => by cases h⟩

theorem over : Rows.tilesCutsRow.holds Try.pinned (OpenSpec.ofChange Rows.tilesCutsSpec) :=
  OpenClaim.holds_of_wide 7 Try.f7 rfl rfl rfl rfl rfl rfl rfl ⟨rfl, rfl, rfl, rfl, rfl⟩ rfl rfl rfl rfl rfl (by kernel_rfl) Try.func7 (by kernel_rfl)
    (of_decide_eq_true (by kernel_rfl)) (by unfold Func.isWrapper; first | (rw [if_pos (by decide +kernel)]; kernel_rfl) | (rw [if_neg (by decide +kernel)]; exact ⟨rfl, rfl⟩))
    (fun os started H enc _ => lifted os started H enc)

theorem proved : Rows.TilesCutsSaid :=
  over
#print axioms proved
end Go.Proofs.Ytecjfenpdpdanaa.tilesCuts
