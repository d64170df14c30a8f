/- What comes next is taken, a whole row: the program's (CmW); all that the program's functions of layer 9 answer. -/
import Derived.Test.YtodfgekhffeapaaCmdTakeW
import Derived.Test.YtodfgekhffeapaaMade
namespace Go.Proofs.Ytodfgekhffeapaa
open Go.RowKit
set_option linter.unusedVariables false
set_option linter.unusedSimpArgs false

namespace CmW
def zeroC : Cm.C := ⟨0, 0, 0, false, 0, 0⟩
theorem made_lay {base n g : Nat} {w : World} (h : w.ownsRow base 25 6 (.slice (some ⟨g, 0, none⟩) n n) n (madeCells (Value.agg #[.int .u32 0, .int .i8 0, .int .i8 0, .bool false, .int .u32 0, .int .u8 0]).cells (n * 6)).toList) (hn : 0 < n) : Lay g (List.replicate n zeroC) w := by
  have ho : OwnL 25 6 cmEnc _ _ w := made_ownL (a := zeroC) h rfl rfl (by decide)
  have key : ∀ i c, (List.replicate n zeroC)[i]? = some c → g < w.heap.size ∧ ∀ j u, (cmEnc c)[j]? = some u → w.cell? ⟨g, i * 6 + j, none⟩ = some u ∧ w.frozen? ⟨g, i * 6 + j, none⟩ = false := by
    intro i c hc
    obtain ⟨g', cap, hv, _, hl, hcells⟩ := ho.cell cmEnc_len hc
    have e : g = g' := by simp at hv; exact hv.1
    subst e
    exact ⟨hl, hcells⟩
  exact ⟨(key 0 zeroC (by simp [hn])).1, fun i c hc => (key i c hc).2⟩
/-- behind k commands: the list, the reader, what has turned -/
structure St (p : Nat) (v : Value) (bs : List Nat) (r2 : Bt.Rd) (m N g : Nat) (w : World) (k : Nat) (wr : World) : Prop where
  lay : Lay g ((Cm.pdN r2 m k).1 ++ List.replicate (N - k) zeroC) wr
  rd : PRd p v bs (Cm.pdN r2 m k).2 wr
  turned : Turned [p] w wr
theorem St.next {p : Nat} {v : Value} {bs : List Nat} {r2 r' : Bt.Rd} {m N g k : Nat} {w wr u : World} {c : Cm.C} (h : St p v bs r2 m N g w k wr) (hp : p < w.heap.size) (hv : ∀ b ∈ rblk v, b < w.heap.size) (hg : w.heap.size ≤ g) (hk : k < N) (hP : PRd p v bs r' u) (hT : Turned [p] wr u) (hc : Cm.pdOne (Cm.pdN r2 m k).2 ((m + k) % 4294967296) = (c, r')) : St p v bs r2 m N g w (k + 1) (put6 u g (k * 6) c) := by
  have hl := (h.lay.keep hT (by simp; omega)).set (k := k) (by rw [List.length_append, Cm.pdN_length, List.length_replicate]; omega) c
  have e1 : (Cm.pdN r2 m (k + 1)).1 = (Cm.pdN r2 m k).1 ++ [c] := by
    show (Cm.pdN r2 m k).1 ++ [(Cm.pdOne (Cm.pdN r2 m k).2 ((m + k) % 4294967296)).1] = _
    rw [hc]
  have e2 : (Cm.pdN r2 m (k + 1)).2 = r' := by
    show (Cm.pdOne (Cm.pdN r2 m k).2 ((m + k) % 4294967296)).2 = _
    rw [hc]
  have hTs : Turned [g] u (put6 u g (k * 6) c) := turned6 (Turned.refl _ _) (.inl (by simp)) _
  refine ⟨?_, ?_, turned6 (h.turned.trans hT (fun k hk _ => hk)) (.inr hg) _⟩
  · have e3 : ((Cm.pdN r2 m k).1 ++ List.replicate (N - k) zeroC).set k c = (Cm.pdN r2 m (k + 1)).1 ++ List.replicate (N - (k + 1)) zeroC := by
      rw [e1, List.set_append_right _ _ (by rw [Cm.pdN_length]; omega), Cm.pdN_length, Nat.sub_self]
      obtain ⟨M, hM⟩ : ∃ M, N - k = M + 1 := ⟨N - k - 1, by omega⟩
      rw [hM, show N - (k + 1) = M by omega, List.replicate_succ]
      simp
    rw [← e3]; exact hl
  · rw [e2]
    exact hP.keep hTs (by simp; omega) (by intro x hx; have := hv x hx; simp; omega)

set_option maxRecDepth 20000 in
set_option maxHeartbeats 4000000 in
theorem take_any (p : Nat) (v : Value) (bs : List Nat) (r : Bt.Rd) (w : World) (h : PRd p v bs r w) :
    Calls Try.prog 21 #[.pointer (some ⟨p, 0, none⟩)] w fun e w' => Took p v bs r w e w' := by
  have kt := fun (r : Bt.Rd) (n : Int) (u : World) (h : PRd p v bs r u) => BtD.take_any p v bs r n u h
  obtain ⟨i0, hi, hz0, hz1, hz2⟩ := info_parts elem_cm.info
  have b3 := tell_lt3 r
  have b32 := tell_lt32 (r.take 3)
  have hP := h
  have hrb := prd_rblk h
  have hpl := h.lt
  have hT : Turned [p] w w := Turned.refl _ _
  have HWF : Hid r.wf := h.2.2.2.1
  go_enter Try.func21, Try.ntmps21
  go_wp2_with (first | (at_make; refine wpList_make_full _ rfl _ _ 26 rfl 0 25 i0 (.agg #[.int .u32 0, .int .i8 0, .int .i8 0, .bool false, .int .u32 0, .int .u8 0]) 6 (by kernel_rfl) hi hz0 hz1 .i64 .i64 _ _ (r.tell 3 + 1) rfl rfl rfl rfl (by rw [hz2]; omega) (by unfold maxLen; omega) (Nat.zero_le _) ?_; intro w1 ho1 hg1) | (go_at_call 28; (with_reducible refine (kt _ _ _ hP).mono ?_); rintro e u1 ⟨rfl, hP1, hT1⟩; have hP := hP1; have hT := hT.trans hT1 (fun k hk _ => hk); clear hP1 hT1))
  obtain ⟨g, hg⟩ : ∃ g, g = u1.heap.size := ⟨_, rfl⟩
  have hgw : w.heap.size ≤ g := by rw [hg]; exact hT.size
  rw [← hg] at ho1 ⊢
  have hL := made_lay ho1 (by omega)
  have hTg := grown_turned hg1
  have hst : St p v bs ((r.take 3).take 32) ((r.take 3).tell 32) (r.tell 3 + 1) g w 0 w1 := ⟨hL, hP.keep hTg (by simp) (by simp), hT.trans hTg (by simp)⟩
  obtain ⟨N, hN⟩ : ∃ N, N = r.tell 3 + 1 := ⟨_, rfl⟩
  obtain ⟨m, hm⟩ : ∃ m, m = (r.take 3).tell 32 := ⟨_, rfl⟩
  obtain ⟨r2, hr2⟩ : ∃ r2, r2 = (r.take 3).take 32 := ⟨_, rfl⟩
  have hN1 : ((r.tell 3 : Nat) : Int) + 1 = (N : Int) := by omega
  have bN : (N : Int) ≤ 8 := by omega
  rw [← hN] at hst ⊢
  rw [← hm] at b32 hst ⊢
  rw [← hr2] at hst
  rw [hN1]
  have HN : Hid (N = r.tell 3 + 1) := hN
  have HM : Hid (m = (r.take 3).tell 32) := hm
  have HR : Hid (r2 = (r.take 3).take 32) := hr2
  clear hP hT hN hm hr2 hL hTg ho1 hg1 hg kt h hN1 b3
  go_loopw [19] (fun i wr => ∃ k : Nat, k ≤ N ∧ i = .int .i64 (k : Int) ∧ St p v bs r2 m N g w k wr) (fun i _ => N - (intOf i).toNat)
  case atStart => exact ⟨0, by omega, rfl, hst⟩
  case round =>
    clear hst
    obtain ⟨k, hk, rfl, hS⟩ := hrel
    by_cases hlt : (k : Int) < (N : Int)
    · obtain ⟨M, hM⟩ : ∃ M, M = (m + k) % 4294967296 := ⟨_, rfl⟩
      have hMz : ((m : Int) + (k : Int)) % 4294967296 = (M : Int) := by omega
      have hMw : IntKind.u32.wrap ((m : Int) + (k : Int)) = (M : Int) := by simp [IntKind.wrap, IntKind.bits, IntKind.signed]; omega
      have kto := takeOne_any p v bs (Cm.pdN r2 m k).2 M (by omega) wr hS.rd
      have HNX : Hid (∀ c r' u, PRd p v bs r' u → Turned [p] wr u → Cm.pdOne (Cm.pdN r2 m k).2 M = (c, r') → St p v bs r2 m N g w (k + 1) (put6 u g (k * 6) c)) := fun c r' u hP hT hc => hS.next hpl hrb hgw (by omega) hP hT (by rw [← hM]; exact hc)
      have hold : ∀ u, Turned [p] wr u → ∃ c0, ∀ j x, (cmEnc c0)[j]? = some x → u.cell? ⟨g, k * 6 + j, none⟩ = some x ∧ u.frozen? ⟨g, k * 6 + j, none⟩ = false := by
        intro u hT
        have hl := hS.lay.keep hT (by simp; omega)
        have hkl : k < ((Cm.pdN r2 m k).1 ++ List.replicate (N - k) zeroC).length := by rw [List.length_append, Cm.pdN_length, List.length_replicate]; omega
        exact ⟨_, hl.at_ k _ (List.getElem?_eq_getElem hkl)⟩
      generalize Cm.pdOne (Cm.pdN r2 m k).2 M = cr at kto HNX
      obtain ⟨c, r'⟩ := cr
      clear hM hS
      go_wp2_with (go_at_call 35; (with_reducible refine kto.mono ?_); rintro e u2 ⟨rfl, hP2, hT2⟩; obtain ⟨c0, hc0⟩ := hold _ hT2; have o0 := (hc0 0 _ rfl).1; have o1 := (hc0 1 _ rfl).1; have o2 := (hc0 2 _ rfl).1; have o3 := (hc0 3 _ rfl).1; have o4 := (hc0 4 _ rfl).1; have o5 := (hc0 5 _ rfl).1; have f0 := (hc0 0 _ rfl).2; have f1 := (hc0 1 _ rfl).2; have f2 := (hc0 2 _ rfl).2; have f3 := (hc0 3 _ rfl).2; have f4 := (hc0 4 _ rfl).2; have f5 := (hc0 5 _ rfl).2; rw [Nat.add_zero] at o0 f0)
      have hfin := HNX.out c r' u2 hP2 hT2 rfl
      go_roundw
      case rel => exact ⟨k + 1, by omega, by go_num, hfin⟩
      case measure => simp [intOf]; omega
    · have hk' : k = N := by omega
      subst hk'
      obtain ⟨hl, hP, hT⟩ := hS
      rw [Nat.sub_self, List.replicate_zero, List.append_nil] at hl
      obtain ⟨lr, hlr⟩ : ∃ lr, lr = (Cm.pdN r2 m k).1 := ⟨_, rfl⟩
      obtain ⟨rr, hrr⟩ : ∃ rr, rr = (Cm.pdN r2 m k).2 := ⟨_, rfl⟩
      have hlen : lr.length = k := by rw [hlr, Cm.pdN_length]
      rw [← hlr] at hl
      rw [← hrr] at hP
      have HLR : Hid (lr = (Cm.pdRow r).1) := by show _ = _; rw [hlr, HR.out, HM.out, HN.out]; rfl
      have HRR : Hid (rr = (Cm.pdRow r).2) := by show _ = _; rw [hrr, HR.out, HM.out, HN.out]; rfl
      have hwf : ∀ c ∈ lr, c.wf := by rw [HLR.out]; exact Cm.pdRow_wf r
      have kok := BtD.ok_any p v _ rr.fail wr hP.1
      have krow := row_any (some ⟨g, 0, none⟩) k lr hwf wr hl.row (by omega)
      rw [hlen] at krow
      have HLEN : Hid (lr.length = k) := hlen
      have HCUT : Hid (∀ l s, Cm.Next (r.on s) l → r.rest.length < (Cm.all l).length → rr.fail = true) := by
        intro l s h1 h2
        rw [HRR.out]; exact Cm.pd_cut HWF.out h1 h2
      clear hlr hrr hlen hwf hlt hk
      cases hfl : rr.fail with
      | true =>
        rw [hfl] at kok
        have HNO : Hid (∀ l, ¬ Cm.Next r l) := Cm.pd_fail (by rw [← HRR.out]; exact hfl)
        clear krow hfl
        go_wp2_with (go_at_call 26; (with_reducible refine kok.mono ?_); rintro e u3 ⟨rfl, hu⟩; subst hu)
        go_ret2
        exact Or.inr ⟨HNO.out, ⟨_, _, rfl⟩, ⟨rr, hP, HCUT.out⟩, hT⟩
      | false =>
        rw [hfl] at kok
        cases hrow : Cm.row lr with
        | false =>
          rw [hrow] at krow
          have HNO : Hid (∀ l, ¬ Cm.Next r l) := Cm.pd_none (by rw [← HLR.out]; exact hrow)
          clear hfl hrow
          go_wp2_with (first | (go_at_call 26; (with_reducible refine kok.mono ?_); rintro e u3 ⟨rfl, hu⟩; subst hu) | (go_at_call 14; (with_reducible refine krow.mono ?_); rintro e u4 ⟨rfl, hT4⟩))
          go_ret2
          exact Or.inr ⟨HNO.out, ⟨_, _, rfl⟩, ⟨rr, hP.keep hT4 (by simp) (by simp), HCUT.out⟩, hT.trans hT4 (by simp)⟩
        | true =>
          rw [hrow] at krow
          have hnb := Cm.pd_next (r := r) (by rw [← HRR.out]; exact hfl) (by rw [← HLR.out]; exact hrow)
          rw [← HLR.out, ← HRR.out] at hnb
          have HNB : Hid (Cm.Next r lr ∧ rr = ⟨r.l, r.at_ + (Cm.all lr).length, false⟩) := hnb
          clear hfl hrow hnb
          go_wp2_with (first | (go_at_call 26; (with_reducible refine kok.mono ?_); rintro e u3 ⟨rfl, hu⟩; subst hu) | (go_at_call 14; (with_reducible refine krow.mono ?_); rintro e u4 ⟨rfl, hT4⟩))
          go_ret2
          exact Or.inl ⟨lr, some ⟨g, 0, none⟩, k, HNB.out.1, by rw [HLEN.out]; rfl, (hl.keep hT4 (by simp)).row, by intro a ha; cases ha; exact hgw, by rw [← HNB.out.2]; exact hP.keep hT4 (by simp) (by simp), hT.trans hT4 (by simp)⟩

theorem contracts : Contracts := ⟨formed_any, row_any, put_any, take_any⟩
end CmW
end Go.Proofs.Ytodfgekhffeapaa
