/- What is put, behind whatever bits, is taken. -/
import Derived.Test.YtodfgekhffeapaaRows
import Derived.Test.YtodfgekhffeapaaCmdWalks
import Derived.Test.YtodfgekhffeapaaCmdLaw2
import Derived.Test.YtodfgekhffeapaaFlat
import Derived.WalkKit
import Derived.ProofKit
import Derived.OpenShut
import Derived.ChangeOld
import Derived.Below
import Derived.WalkSmall
import Derived.Lib.SmallJoins
import Derived.Laws.IdiomArrays
namespace Go.Proofs.Ytodfgekhffeapaa.commandBack
open Go.ChangeShapes Go.WideShapes Go.ChangeAt Go.RowKit
set_option linter.unusedVariables false

theorem own : ownKnob Try.prog.godebug = none := by kernel_rfl
theorem laidOut : laidOutB Try.prog = true := by kernel_rfl

theorem puts_len {A : Nat} : (BtW.puts ((A : Int)).toNat ((A : Int) % 60)).length = A % 60 := by
  unfold BtW.puts
  rw [if_pos (by omega), Bt.bits_length]; omega

set_option maxRecDepth 20000 in
set_option maxHeartbeats 4000000 in
theorem walk (a0_o : Option Addr) (a0_n a0_c : Nat) (a0_l : List (Cm.C)) (a1 : Int) (w0_m : a0_n ≤ maxLen) (w0_l : a0_n ≤ a0_c) (w0_e : a0_l.length = a0_n) (w0_k : ∀ a ∈ a0_l, AllOk [.int .u32, .int .i8, .int .i8, .bool, .int .u32, .int .u8] (cmEnc a)) (w1 : (Lit.int .u8 a1).wf = true) (w : World) (w0 : RowOf 6 cmEnc a0_o a0_l w) :
    Calls Try.prog 5 #[.slice a0_o a0_n a0_c, .int .u8 a1] w fun e w' => e = .returned (.bool true) ∧ Below w.heap.size w w' := by
  have K := CmW.contracts
  unfold maxLen at w0_m
  have hw : ∀ c ∈ a0_l, c.wf := fun c hc => cm_wf (w0_k c hc)
  have hlen : (a0_l.length : Int) ≤ 9223372036854775807 := by omega
  have hA8 := u8_nn w1
  obtain ⟨A, rfl⟩ : ∃ A : Nat, a1 = (A : Int) := ⟨a1.toNat, by omega⟩
  have kA := CmL.awake_any K
  have kR := fun (u : World) (hr : RowOf 6 cmEnc a0_o a0_l u) => K.row a0_o a0_c a0_l hw u hr hlen
  have HE : Hid (a0_l.length = a0_n) := w0_e
  by_cases hrow : Cm.row a0_l = true
  · obtain ⟨P, hP⟩ : ∃ P, P = BtW.puts ((A : Int)).toNat ((A : Int) % 60) := ⟨_, rfl⟩
    have hPl : P.length = A % 60 := by rw [hP]; exact puts_len
    have hall := CmL.all_le hrow
    have hpos : 0 < a0_l.length := by have := (Cm.row_iff a0_l).1 hrow; omega
    have kP := fun (u : World) (F : List Nat) (p : Nat) (hp : PW p P F u) (hr : RowOf 6 cmEnc a0_o a0_l u) (hd : ∀ a, a0_o = some a → a.block ∉ F) => K.put p P F a0_o a0_c a0_l hw u hp (by omega) hr hlen (fun a ha _ => hd a ha)
    have kW := fun (u : World) => BtW.put_any u.heap.size [] [u.heap.size] (A : Int) ((A : Int) % 60) (by omega) (by omega) _ (PW.new u 31) (by simp)
    have kB := fun (p : Nat) (F : List Nat) (u : World) (h : PW p (P ++ Cm.all a0_l) F u) => BtW.bytes_any p (P ++ Cm.all a0_l) F u h (by rw [List.length_append]; omega)
    have hpl : (Bt.pack (P ++ Cm.all a0_l)).length ≤ 4294967296 := by rw [Bt.pack_length, List.length_append]; omega
    have kN := fun (oa : Option Addr) (ca : Nat) (u : World) (hr : RowOf 1 byEnc oa (Bt.pack (P ++ Cm.all a0_l)) u) => BtD.new_any oa (Bt.pack (P ++ Cm.all a0_l)).length ca (Bt.pack (P ++ Cm.all a0_l)) u rfl hr hpl (Bt.pack_lt _)
    have hbt := CmL.back_take (P := P) (l := a0_l) (by omega)
    have hnx := CmL.back_next (P := P) hrow hw
    have hdn := CmL.back_done (P := P) (l := a0_l)
    rw [hPl] at hbt hnx hdn
    have e60 : ((A % 60 : Nat) : Int) = (A : Int) % 60 := by omega
    rw [e60] at hbt
    obtain ⟨bs, hbs⟩ : ∃ bs, bs = Bt.pack (P ++ Cm.all a0_l) := ⟨_, rfl⟩
    rw [← hbs] at kB kN hbt hnx hdn
    have kT := fun (p : Nat) (v : Value) (u : World) (h : PRd p v bs ⟨Bt.unpack bs, 0, false⟩ u) => BtD.take_any p v bs _ ((A : Int) % 60) u h
    rw [hbt] at kT
    have kC := fun (p : Nat) (v : Value) (u : World) (h : PRd p v bs ⟨Bt.unpack bs, A % 60, false⟩ u) => K.take_next h hnx
    have kD := fun (p : Nat) (v : Value) (u : World) (h : PRd p v bs ⟨Bt.unpack bs, A % 60 + (Cm.all a0_l).length, false⟩ u) => BtD.done_any p v bs _ u h
    rw [hdn] at kD
    have kS := fun (oa : Option Addr) (ca : Nat) (u : World) (h1 : RowOf 6 cmEnc oa a0_l u) (h2 : RowOf 6 cmEnc a0_o a0_l u) => CmR.same_any oa a0_o ca a0_c a0_l u h1 h2 (by have := ((Cm.row_iff a0_l).1 hrow).2.1; omega)
    simp only [hrow, if_true, List.nil_append] at kR kP kW
    rw [← hP] at kW
    rw [w0_e] at kR kP kC kS
    have HPOS : Hid (0 < a0_l.length) := hpos
    have HROW : Hid (Cm.row a0_l = true) := hrow
    obtain ⟨N, hN⟩ : ∃ N, N = (Bt.pack (P ++ Cm.all a0_l)).length := ⟨_, rfl⟩
    clear hbt hnx hdn hPl hP hall hpos hpl hbs e60 w0_e hlen w0_k w1 hrow K
    have hblk := CmL.row_block w0 HPOS.out
    have HT0 : Turned [] w w := Turned.refl _ _
    go_enter Try.func5, Try.ntmps5
    go_wp2_with (first | (go_at_call 9; (with_reducible refine (kA _).mono ?_); rintro e u0 ⟨rfl, HT1⟩; have HT0 := HT0.trans HT1 (by simp)) | (go_at_call 14; (with_reducible refine (kR _ (w0.turned HT0 (by simp))).mono ?_); rintro e u1 ⟨rfl, HT1⟩; have HT0 := HT0.trans HT1 (by simp)) | (go_at_call 27; (with_reducible refine (kW _).mono ?_); rintro e u2 ⟨rfl, F2, hp2, hm2⟩; have hs1 := HT0.size; have hF2 : ∀ k ∈ F2, w.heap.size ≤ k := hm2.ge (by simp; omega) (by intro k hk; simp at hk; omega); have hd2 : ∀ a, a0_o = some a → a.block ∉ F2 := (fun a ha hk => absurd (hF2 _ hk) (Nat.not_le.2 (hblk a ha))); have HT0 := (HT0.alloc _).trans hm2.1 (by intro k hk hl; simp at hk; omega)) | (go_at_call 10; (with_reducible refine (kP _ _ _ hp2 (w0.turned HT0 (by simp)) hd2).mono ?_); rintro e u3 ⟨rfl, F3, hp3, hm3⟩; have HT0 := HT0.trans hm3.1 (by intro k hk hl; have := hF2 k hk; omega)) | (go_at_call 17; (with_reducible refine (kB _ _ _ hp3).mono ?_); rintro e u4 ⟨v4, rfl, ho4, HT4, hv4⟩; have HT0 := HT0.trans HT4 (by simp); obtain ⟨oa, ca, rfl, _, _, hra, _⟩ := ho4.rowOf byEnc_len) | (go_at_call 19; (with_reducible refine (kN oa ca _ hra).mono ?_); rintro e u5 ⟨p, v, rfl, hN5, HT5, hpn, hvn⟩; have hpw : w.heap.size ≤ p := Nat.le_trans HT0.size hpn; have HT0 := HT0.trans HT5 (by simp)) | (go_at_call 28; (with_reducible refine (kT _ _ _ hN5).mono ?_); rintro e u6 ⟨rfl, hN6, HT6⟩; have HT0 := HT0.trans HT6 (by intro k hk hl; simp at hk; omega)) | (go_at_call 21; (with_reducible refine (kC _ _ _ hN6).mono ?_); rintro e u7 ⟨ob, cb, rfl, hrow7, hb7, hP7, HT7⟩; have HT0 := HT0.trans HT7 (by intro k hk hl; simp at hk; omega)) | (go_at_call 23; (with_reducible refine (kS ob cb _ hrow7 (w0.turned HT0 (by simp))).mono ?_); rintro e u8 ⟨rfl, HT8⟩; have hP8 := hP7.keep HT8 (by simp) (by simp); have HT0 := HT0.trans HT8 (by simp)) | (go_at_call 29; (with_reducible refine (kD _ _ _ hP8).mono ?_); rintro e u9 ⟨rfl, HT9⟩; have HT0 := HT0.trans HT9 (by simp)))
    go_ret
    exact ⟨rfl, HT0.none⟩
  · have hrf : Cm.row a0_l = false := by simpa using hrow
    simp only [hrf] at kR
    rw [w0_e] at kR
    clear hrow hrf K
    have HT0 : Turned [] w w := Turned.refl _ _
    go_enter Try.func5, Try.ntmps5
    go_wp2_with (first | (go_at_call 14; (with_reducible refine (kR _ (w0.turned HT0 (by simp))).mono ?_); rintro e u1 ⟨rfl, HT1⟩; have HT0 := HT0.trans HT1 (by simp)) | (go_at_call 9; (with_reducible refine (kA _).mono ?_); rintro e u0 ⟨rfl, HT1⟩; have HT0 := HT0.trans HT1 (by simp)))
    go_ret
    exact ⟨rfl, HT0.none⟩

set_option maxRecDepth 100000 in
theorem lifted (os : Os) (started : os.Started) (H : Type) (enc : TypeId × Value → H) :
    ReturnsInHanded {} Try.checked os 5 .any (Rows.commandBackSpec.pre6 enc Try.prog Try.f5 Rows.commandBackRow.domain false) (Rows.commandBackSpec.post enc Try.prog Try.f5 false true false false) := by
  refine returnsInHanded_of_change (C := Try.checked) own started (by kernel_rfl) Try.func5
    (ChangeSpec.witness6 (enc := enc) (C := Try.checked) false ⟨#[], #[.slice none 0 0, .int .u8 0], []⟩ 8 (by kernel_rfl) (by kernel_rfl) (by kernel_rfl) (by kernel_rfl)) ?_
  intro W base args ds gs before hval0 hW hcnd _
  have hval : ∀ (j : Nat) t v, Try.f5.params[j]? = some t → args[j]? = some v → Value.okWide Try.prog W .any base t v := hval0
  have hW' := hW
  obtain ⟨p, q, hA0, hV, rfl, hfz, hnd⟩ := hW
  have hA : DataW.TrodAll enc Try.prog W 0 (fun _ => true) true Try.f5.params.toList args.toList ds p := hA0
  rw [Try.params5] at hA hval
  obtain ⟨v0, vs0, d0, ds0, p0, q0, hargs, rfl, rfl, h0, r0⟩ := trodAll_cons hA
  obtain ⟨v1, vs1, d1, ds1, p1, q1, rfl, rfl, rfl, h1, r1⟩ := trodAll_cons r0
  obtain ⟨rfl, rfl, rfl⟩ := trodAll_nil r1
  obtain rfl : args = #[v0, v1] := by cases args; simp_all
  obtain ⟨rfl, rfl⟩ := trodVars_none hV
  have k0 := h0
  have lt0 : ∀ x ∈ p0, x.block < W.heap.size := by obtain ⟨m, hm⟩ := k0; exact DataW.trod_lt m _ _ _ hm
  have k1 := h1
  have lt1 : ∀ x ∈ p1, x.block < W.heap.size := by obtain ⟨m, hm⟩ := k1; exact DataW.trod_lt m _ _ _ hm
  obtain ⟨a0_o, a0_n, a0_c, a0_l, rfl, w0_m, w0_l, w0_e, w0, w0_k⟩ := open_flats (d := 8) (ks := [.int .u32, .int .i8, .int .i8, .bool, .int .u32, .int .u8]) cmEnc Try.underlying26 (by kernel_rfl) (by kernel_rfl) (by decide) cmEnc_of (hval 0 26 v0 rfl rfl) h0
  obtain ⟨a1, rfl, _, _, w1⟩ := open_int Try.underlying5 (hval 1 5 v1 rfl rfl) h1
  clear hA0 hval0
  refine (walk a0_o a0_n a0_c a0_l a1 w0_m w0_l w0_e w0_k w1 W w0).mono fun e W' ⟨he, bel⟩ => ?_
  subst he
  exact ⟨_, rfl, _, _, _, [], _, [], hW', trodAll_mk1 (shut_bool Try.underlying4 _), (trodAll_cons_mk (Below.trod laidOut (by kernel_rfl) (of_decide_eq_true (by kernel_rfl)) k0 bel lt0) (trodAll_cons_mk (Below.trod laidOut (by kernel_rfl) (of_decide_eq_true (by kernel_rfl)) k1 bel lt1) trodAll_mk0)), rfl, bel.frame _, fun h => by cases h⟩

theorem over : Rows.commandBackRow.holds Try.pinned (OpenSpec.ofChange Rows.commandBackSpec) :=
  OpenClaim.holds_of_wide 5 Try.f5 rfl rfl rfl rfl rfl rfl rfl ⟨rfl, rfl, rfl, rfl, rfl⟩ rfl rfl rfl rfl rfl (by kernel_rfl) Try.func5 (by kernel_rfl)
    (of_decide_eq_true (by kernel_rfl)) (by unfold Func.isWrapper; first | (rw [if_pos (by decide +kernel)]; kernel_rfl) | (rw [if_neg (by decide +kernel)]; exact ⟨rfl, rfl⟩))
    (fun os started H enc _ => lifted os started H enc)

theorem proved : Rows.CommandBackSaid :=
  over
#print axioms proved
end Go.Proofs.Ytodfgekhffeapaa.commandBack
