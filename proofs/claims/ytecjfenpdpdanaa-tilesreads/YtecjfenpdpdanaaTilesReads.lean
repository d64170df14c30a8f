/- All texts of up to 5000 bytes are read as maps, or refused, as the reference of layer 11 reads or refuses them. -/
import Derived.Test.YtecjfenpdpdanaaRows
import Derived.Test.YtecjfenpdpdanaaTilLaw
import Derived.WalkKit
import Derived.ProofKit
import Derived.OpenShut
import Derived.ChangeOld
import Derived.Below
import Derived.WalkSmall
import Derived.Lib.SmallJoins
import Derived.Laws.IdiomArrays
namespace Go.Proofs.Ytecjfenpdpdanaa.tilesReads
open Go.ChangeShapes Go.WideShapes Go.ChangeAt Go.RowKit
set_option linter.unusedVariables false

theorem own : ownKnob Try.prog.godebug = none := by kernel_rfl
theorem laidOut : laidOutB Try.prog = true := by kernel_rfl

set_option maxRecDepth 20000 in
set_option maxHeartbeats 8000000 in
theorem walk (a0 : ByteArray) (w0 : a0.size ≤ maxLen) (w : World) :
    Calls Try.prog 3 #[.string a0] w fun e w' => e = .returned (.bool true) ∧ Below w.heap.size w w' := by
  have kA := TiL.awake_any
  unfold maxLen at w0
  by_cases hsz : (a0.size : Int) ≤ 5000
  · have kr1 := fun u => TiW.read_any a0 (by omega) u
    have kr2 := fun u => TiR.read_any a0 (by omega) u
    unfold TiR.Answers at kr1 kr2
    obtain ⟨m, hm⟩ : ∃ m, m = Ti.ansM (Ti.read a0.data.toList) := ⟨_, rfl⟩
    obtain ⟨n, hn⟩ : ∃ n, n = Ti.ansN (Ti.read a0.data.toList) := ⟨_, rfl⟩
    obtain ⟨f, hf⟩ : ∃ f, f = Ti.ansE (Ti.read a0.data.toList) := ⟨_, rfl⟩
    rw [← hm, ← hn, ← hf] at kr1 kr2
    have ks := fun (oa ob pa pb : Option Addr) (ca cb da db : Nat) (u : World) (h1 : MapAt m oa ob u) (h2 : MapAt m pa pb u) => TiR.same_any m m oa ob pa pb ca cb da db u h1 h2
    rw [show TiR.sameB m m = true from TiR.sameB_iff.2 rfl] at ks
    obtain ⟨nw, hnw⟩ : ∃ n, n = m.ws.length := ⟨_, rfl⟩
    obtain ⟨ns, hns⟩ : ∃ n, n = m.sp.length := ⟨_, rfl⟩
    unfold mapVal at kr1 kr2 ks
    rw [← hnw, ← hns] at kr1 kr2 ks
    clear hm hn hf hnw hns
    have HT0 : Turned [] w w := Turned.refl _ _
    go_enter Try.func3, Try.ntmps3
    go_wp2_with (first | (go_at_call 10; (with_reducible refine (kA _).mono ?_); rintro e u0 ⟨rfl, HT1⟩; have HT0 := HT0.trans HT1 (by simp)) | (go_at_call 11; (with_reducible refine (kr1 _).mono ?_); rintro e u1 ⟨oa, ca, ob, cb, rfl, hM1, _, _, HT1⟩; have HT0 := (HT0.trans HT1 (by simp)).alloc (.cells #[.int .i64 m.W, .int .i64 m.H, .slice oa nw ca, .slice ob ns cb] 26)) | (go_at_call 12; (with_reducible refine (kr2 _).mono ?_); rintro e u2 ⟨pa, da, pb, db, rfl, hM2, _, _, HT2⟩; have hS := (Struct.new u1 [.int .i64 m.W, .int .i64 m.H, .slice oa nw ca, .slice ob ns cb] 26).keep HT2 (by simp); have HT0 := HT0.trans HT2 (by simp); have d0 := fun o => ((hS.keep ((Turned.refl [] u2).alloc o) (by simp)).2 0 _ rfl).1; have d1 := fun o => ((hS.keep ((Turned.refl [] u2).alloc o) (by simp)).2 1 _ rfl).1; have d2 := fun o => ((hS.keep ((Turned.refl [] u2).alloc o) (by simp)).2 2 _ rfl).1; have d3 := fun o => ((hS.keep ((Turned.refl [] u2).alloc o) (by simp)).2 3 _ rfl).1; have hM3 := ((hM1.calm ((Turned.refl [] u1).alloc _)).calm HT2).calm ((Turned.refl [] u2).alloc (.cells #[.int .i64 m.W, .int .i64 m.H, .slice pa nw da, .slice pb ns db] 30)); have hM4 := hM2.calm ((Turned.refl [] u2).alloc (.cells #[.int .i64 m.W, .int .i64 m.H, .slice pa nw da, .slice pb ns db] 30))) | (go_at_call 13; (with_reducible refine (ks oa ob pa pb ca cb da db _ hM3 hM4).mono ?_); rintro e u3 ⟨rfl, HT3⟩))
    go_ret
    exact ⟨rfl, ((HT0.alloc _).trans HT3 (by simp)).none⟩
  · have HT0 : Turned [] w w := Turned.refl _ _
    go_enter Try.func3, Try.ntmps3
    go_wp2_with (go_at_call 10; (with_reducible refine (kA _).mono ?_); rintro e u0 ⟨rfl, HT1⟩; have HT0 := HT0.trans HT1 (by simp))
    go_ret
    exact ⟨rfl, HT0.none⟩

set_option maxRecDepth 100000 in
theorem lifted (os : Os) (started : os.Started) (H : Type) (enc : TypeId × Value → H) :
    ReturnsInHanded {} Try.checked os 3 .any (Rows.tilesReadsSpec.pre6 enc Try.prog Try.f3 Rows.tilesReadsRow.domain false) (Rows.tilesReadsSpec.post enc Try.prog Try.f3 false true false false) := by
  refine returnsInHanded_of_change (C := Try.checked) own started (by kernel_rfl) Try.func3
    (ChangeSpec.witness6 (enc := enc) (C := Try.checked) false ⟨#[], #[.string ⟨#[]⟩], []⟩ 8 (by kernel_rfl) (by kernel_rfl) (by kernel_rfl) (by kernel_rfl)) ?_
  intro W base args ds gs before hval0 hW hcnd _
  have hval : ∀ (j : Nat) t v, Try.f3.params[j]? = some t → args[j]? = some v → Value.okWide Try.prog W .any base t v := hval0
  have hW' := hW
  obtain ⟨p, q, hA0, hV, rfl, hfz, hnd⟩ := hW
  have hA : DataW.TrodAll enc Try.prog W 0 (fun _ => true) true Try.f3.params.toList args.toList ds p := hA0
  rw [Try.params3] at hA hval
  obtain ⟨v0, vs0, d0, ds0, p0, q0, hargs, rfl, rfl, h0, r0⟩ := trodAll_cons hA
  obtain ⟨rfl, rfl, rfl⟩ := trodAll_nil r0
  obtain rfl : args = #[v0] := by cases args; simp_all
  obtain ⟨rfl, rfl⟩ := trodVars_none hV
  have k0 := h0
  have lt0 : ∀ x ∈ p0, x.block < W.heap.size := by obtain ⟨m, hm⟩ := k0; exact DataW.trod_lt m _ _ _ hm
  obtain ⟨a0, rfl, _, _, w0⟩ := Go.ChangeMaps.open_string Try.underlying9 (hval 0 9 v0 rfl rfl) h0
  clear hA0 hval0
  refine (walk a0 w0 W).mono fun e W' ⟨he, bel⟩ => ?_
  subst he
  exact ⟨_, rfl, _, _, _, [], _, [], hW', trodAll_mk1 (shut_bool Try.underlying4 _), (trodAll_cons_mk (Below.trod laidOut (by kernel_rfl) (of_decide_eq_true (by kernel_rfl)) k0 bel lt0) trodAll_mk0), rfl, bel.frame _, fun h => by cases h⟩

theorem over : Rows.tilesReadsRow.holds Try.pinned (OpenSpec.ofChange Rows.tilesReadsSpec) :=
  OpenClaim.holds_of_wide 3 Try.f3 rfl rfl rfl rfl rfl rfl rfl ⟨rfl, rfl, rfl, rfl, rfl⟩ rfl rfl rfl rfl rfl (by kernel_rfl) Try.func3 (by kernel_rfl)
    (of_decide_eq_true (by kernel_rfl)) (by unfold Func.isWrapper; first | (rw [if_pos (by decide +kernel)]; kernel_rfl) | (rw [if_neg (by decide +kernel)]; exact ⟨rfl, rfl⟩))
    (fun os started H enc _ => lifted os started H enc)

theorem proved : Rows.TilesReadsSaid :=
  over
#print axioms proved
end Go.Proofs.Ytecjfenpdpdanaa.tilesReads
