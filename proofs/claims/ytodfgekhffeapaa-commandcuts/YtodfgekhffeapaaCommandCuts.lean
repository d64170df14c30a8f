/- Of a row's bytes with the last one cut off none is taken. -/
import Derived.Test.YtodfgekhffeapaaRows
import Derived.Test.YtodfgekhffeapaaCmdWalks
import Derived.Test.YtodfgekhffeapaaCmdLaw2
import Derived.Test.YtodfgekhffeapaaFlat
import Derived.WalkKit
import Derived.ProofKit
import Derived.OpenShut
import Derived.ChangeOld
import Derived.Below
import Derived.WalkSmall
import Derived.Lib.SmallJoins
import Derived.Laws.IdiomArrays
namespace Go.Proofs.Ytodfgekhffeapaa.commandCuts
open Go.ChangeShapes Go.WideShapes Go.ChangeAt Go.RowKit
set_option linter.unusedVariables false

theorem own : ownKnob Try.prog.godebug = none := by kernel_rfl
theorem laidOut : laidOutB Try.prog = true := by kernel_rfl

set_option maxRecDepth 20000 in
set_option maxHeartbeats 4000000 in
theorem walk (a0_o : Option Addr) (a0_n a0_c : Nat) (a0_l : List (Cm.C)) (w0_m : a0_n ≤ maxLen) (w0_l : a0_n ≤ a0_c) (w0_e : a0_l.length = a0_n) (w0_k : ∀ a ∈ a0_l, AllOk [.int .u32, .int .i8, .int .i8, .bool, .int .u32, .int .u8] (cmEnc a)) (w : World) (w0 : RowOf 6 cmEnc a0_o a0_l w) :
    Calls Try.prog 8 #[.slice a0_o a0_n a0_c] w fun e w' => e = .returned (.bool true) ∧ Below w.heap.size w w' := by
  have K := CmW.contracts
  unfold maxLen at w0_m
  have hw : ∀ c ∈ a0_l, c.wf := fun c hc => cm_wf (w0_k c hc)
  have hlen : (a0_l.length : Int) ≤ 9223372036854775807 := by omega
  have kA := CmL.awake_any K
  have kR := fun (u : World) (hr : RowOf 6 cmEnc a0_o a0_l u) => K.row a0_o a0_c a0_l hw u hr hlen
  by_cases hrow : Cm.row a0_l = true
  · have hall := CmL.all_le hrow
    have hpos : 0 < a0_l.length := by have := (Cm.row_iff a0_l).1 hrow; omega
    have hblk := CmL.row_block w0 hpos
    have kP := fun (u : World) (F : List Nat) (p : Nat) (hp : PW p [] F u) (hr : RowOf 6 cmEnc a0_o a0_l u) (hd : ∀ a, a0_o = some a → a.block ∉ F) => K.put p [] F a0_o a0_c a0_l hw u hp (by simp) hr hlen (fun a ha _ => hd a ha)
    have kB := fun (p : Nat) (F : List Nat) (u : World) (h : PW p (Cm.all a0_l) F u) => BtW.bytes_any p (Cm.all a0_l) F u h (by omega)
    obtain ⟨r, hr, hno, s, hnx, hsh⟩ := CmL.cut_next hrow hw
    have hnb : 5 ≤ (Bt.pack (Cm.all a0_l)).length ∧ (Bt.pack (Cm.all a0_l)).length ≤ 100 := by rw [Bt.pack_length, Cm.all_length] at *; have := Cm.all_length a0_l; omega
    have hlt := Bt.pack_lt (Cm.all a0_l)
    simp only [hrow, if_true, List.nil_append] at kR kP
    rw [w0_e] at kR kP
    obtain ⟨bs, hbs⟩ : ∃ bs, bs = Bt.pack (Cm.all a0_l) := ⟨_, rfl⟩
    rw [← hbs] at kB hr hnb hlt
    obtain ⟨nb, hnb2⟩ : ∃ nb, nb = bs.length := ⟨_, rfl⟩
    rw [← hnb2] at hr hnb
    have kN := fun (oa : Option Addr) (ca : Nat) (u : World) (h : RowOf 1 byEnc oa (bs.take (nb - 1)) u) => BtD.new_any oa (bs.take (nb - 1)).length ca (bs.take (nb - 1)) u rfl h (by rw [List.length_take]; omega) (fun b hb => hlt b (List.mem_of_mem_take hb))
    rw [← hr] at kN
    have kC := fun (p : Nat) (v : Value) (u : World) (h : PRd p v (bs.take (nb - 1)) r u) => K.take_none h hno
    have HCUT : Hid (∀ r' : Bt.Rd, (∀ l s, Cm.Next (r.on s) l → r.rest.length < (Cm.all l).length → r'.fail = true) → r'.fail = true) := fun r' h => h a0_l s hnx hsh
    have HNB : Hid (bs.length = nb) := hnb2.symm
    have hn1 : (bs.take (nb - 1)).length = nb - 1 := by rw [List.length_take, HNB.out]; omega
    rw [hn1] at kN
    obtain ⟨nc, hnc⟩ : ∃ nc, nb = nc + 1 := ⟨nb - 1, by omega⟩
    have nc4 : (4 : Int) ≤ (nc : Int) := by omega
    have nc99 : (nc : Int) ≤ 99 := by omega
    clear hrow hall hpos hnx hsh hno hr hnb hnb2 hbs hlt w0_e w0_k hlen K hn1
    subst hnc
    rw [Nat.add_sub_cancel] at kN kC
    have HT0 : Turned [] w w := Turned.refl _ _
    go_enter Try.func8, Try.ntmps8
    go_wp2_with (first | (go_at_call 9; (with_reducible refine (kA _).mono ?_); rintro e u0 ⟨rfl, HT1⟩; have HT0 := HT0.trans HT1 (by simp)) | (go_at_call 14; (with_reducible refine (kR _ (w0.turned HT0 (by simp))).mono ?_); rintro e u1 ⟨rfl, HT1⟩; have HT0 := HT0.trans HT1 (by simp); have hd1 : ∀ a, a0_o = some a → a.block ∉ [u1.heap.size] := (fun a ha hk => absurd (hblk a ha) (by have := HT0.size; simp at hk; omega)); have hs1 := HT0.size; have HT2 := HT0.alloc (.cells #[.slice none 0 0, .int .i64 0] 31)) | (go_at_call 10; (with_reducible refine (kP _ _ _ (PW.new u1 31) (w0.turned HT2 (by simp)) hd1).mono ?_); rintro e u3 ⟨rfl, F3, hp3, hm3⟩; have HT0 := HT2.trans hm3.1 (by intro k hk hl; simp at hk; omega)) | (go_at_call 17; (with_reducible refine (kB _ _ _ hp3).mono ?_); rintro e u4 ⟨v4, rfl, ho4, HT4, hv4⟩; have HT0 := HT0.trans HT4 (by simp); obtain ⟨oa, ca, rfl, hca, hmx, hra, _⟩ := ho4.rowOf byEnc_len; have HCA : Hid (bs.length ≤ ca) := hca; rw [HNB.out] at hca; have hca' : (nc : Int) ≤ (ca : Int) := (by omega); clear hca hmx; rw [HNB.out]) | (go_at_call 19; (with_reducible refine (kN oa ca _ (CmL.row_take hra _)).mono ?_); rintro e u5 ⟨p, v, rfl, hN5, HT5, hpn, hvn⟩; have hpw : w.heap.size ≤ p := Nat.le_trans HT0.size hpn; have HT0 := HT0.trans HT5 (by simp)) | (go_at_call 21; (with_reducible refine (kC _ _ _ hN5).mono ?_); rintro e u7 ⟨ob, cb, rfl, ⟨r', hP7, hcut⟩, HT7⟩; have hfl := HCUT.out r' hcut; have kO := BtD.ok_any p v _ r'.fail u7 hP7.1; rw [hfl] at kO; have HT0 := HT0.trans HT7 (by intro k hk hl; simp at hk; omega)) | (go_at_call 26; (with_reducible refine kO.mono ?_); rintro e u9 ⟨rfl, rfl⟩))
    go_ret
    exact ⟨rfl, HT0.none⟩
  · have hrf : Cm.row a0_l = false := by simpa using hrow
    simp only [hrf] at kR
    rw [w0_e] at kR
    clear hrow hrf K
    have HT0 : Turned [] w w := Turned.refl _ _
    go_enter Try.func8, Try.ntmps8
    go_wp2_with (first | (go_at_call 14; (with_reducible refine (kR _ (w0.turned HT0 (by simp))).mono ?_); rintro e u1 ⟨rfl, HT1⟩; have HT0 := HT0.trans HT1 (by simp)) | (go_at_call 9; (with_reducible refine (kA _).mono ?_); rintro e u0 ⟨rfl, HT1⟩; have HT0 := HT0.trans HT1 (by simp)))
    go_ret
    exact ⟨rfl, HT0.none⟩

set_option maxRecDepth 100000 in
theorem lifted (os : Os) (started : os.Started) (H : Type) (enc : TypeId × Value → H) :
    ReturnsInHanded {} Try.checked os 8 .any (Rows.commandCutsSpec.pre6 enc Try.prog Try.f8 Rows.commandCutsRow.domain false) (Rows.commandCutsSpec.post enc Try.prog Try.f8 false true false false) := by
  refine returnsInHanded_of_change (C := Try.checked) own started (by kernel_rfl) Try.func8
    (ChangeSpec.witness6 (enc := enc) (C := Try.checked) false ⟨#[], #[.slice none 0 0], []⟩ 8 (by kernel_rfl) (by kernel_rfl) (by kernel_rfl) (by kernel_rfl)) ?_
  intro W base args ds gs before hval0 hW hcnd _
  have hval : ∀ (j : Nat) t v, Try.f8.params[j]? = some t → args[j]? = some v → Value.okWide Try.prog W .any base t v := hval0
  have hW' := hW
  obtain ⟨p, q, hA0, hV, rfl, hfz, hnd⟩ := hW
  have hA : DataW.TrodAll enc Try.prog W 0 (fun _ => true) true Try.f8.params.toList args.toList ds p := hA0
  rw [Try.params8] at hA hval
  obtain ⟨v0, vs0, d0, ds0, p0, q0, hargs, rfl, rfl, h0, r0⟩ := trodAll_cons hA
  obtain ⟨rfl, rfl, rfl⟩ := trodAll_nil r0
  obtain rfl : args = #[v0] := by cases args; simp_all
  obtain ⟨rfl, rfl⟩ := trodVars_none hV
  have k0 := h0
  have lt0 : ∀ x ∈ p0, x.block < W.heap.size := by obtain ⟨m, hm⟩ := k0; exact DataW.trod_lt m _ _ _ hm
  obtain ⟨a0_o, a0_n, a0_c, a0_l, rfl, w0_m, w0_l, w0_e, w0, w0_k⟩ := open_flats (d := 8) (ks := [.int .u32, .int .i8, .int .i8, .bool, .int .u32, .int .u8]) cmEnc Try.underlying26 (by kernel_rfl) (by kernel_rfl) (by decide) cmEnc_of (hval 0 26 v0 rfl rfl) h0
  clear hA0 hval0
  refine (walk a0_o a0_n a0_c a0_l w0_m w0_l w0_e w0_k W w0).mono fun e W' ⟨he, bel⟩ => ?_
  subst he
  exact ⟨_, rfl, _, _, _, [], _, [], hW', trodAll_mk1 (shut_bool Try.underlying4 _), (trodAll_cons_mk (Below.trod laidOut (by kernel_rfl) (of_decide_eq_true (by kernel_rfl)) k0 bel lt0) trodAll_mk0), rfl, bel.frame _, fun h => by cases h⟩

theorem over : Rows.commandCutsRow.holds Try.pinned (OpenSpec.ofChange Rows.commandCutsSpec) :=
  OpenClaim.holds_of_wide 8 Try.f8 rfl rfl rfl rfl rfl rfl rfl ⟨rfl, rfl, rfl, rfl, rfl⟩ rfl rfl rfl rfl rfl (by kernel_rfl) Try.func8 (by kernel_rfl)
    (of_decide_eq_true (by kernel_rfl)) (by unfold Func.isWrapper; first | (rw [if_pos (by decide +kernel)]; kernel_rfl) | (rw [if_neg (by decide +kernel)]; exact ⟨rfl, rfl⟩))
    (fun os started H enc _ => lifted os started H enc)

theorem proved : Rows.CommandCutsSaid :=
  over
#print axioms proved
end Go.Proofs.Ytodfgekhffeapaa.commandCuts
