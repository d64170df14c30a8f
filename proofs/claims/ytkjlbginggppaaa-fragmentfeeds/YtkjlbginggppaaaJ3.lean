/- Joined: FgWLet, FgWKeep, BitRf2, FgWJoin, FgWAsm, FgWForm, BitPutB, FgSplit, FgWPack, BitSev, BitRd2, BitHeld. -/
import Derived.Test.YtkjlbginggppaaaJ2
import Derived.Laws.DeepNot64
import Derived.Deep.RegionHeld3
/- A message is let go (FgW). -/
namespace Go.Proofs.Ytkjlbginggppaaa
open Go.RowKit
set_option linter.unusedVariables false
set_option linter.unusedSimpArgs false

namespace FgW
theorem ms_cells (m : Ms) (w : World) (t : TypeId) : ∀ j u, ([m].flatMap msEnc)[j]? = some u → (w.alloc (.cells #[.int .u16 (m.id : Int), .int .i64 (m.n : Int), .map (some m.b)] t)).cell? ⟨w.heap.size, 0 + j, none⟩ = some u := by
  intro j u hj
  have := (Struct.new w (msEnc m) t).2 j u (by simpa using hj)
  rw [Nat.zero_add]
  exact this.1
theorem filter_take {l : List Ms} {k : Nat} {m : Ms} {P : Ms → Bool} (h : l[k]? = some m) : (l.take (k + 1)).filter P = (l.take k).filter P ++ (if P m = true then [m] else []) := by
  rw [List.take_add_one, h, List.filter_append]
  by_cases hp : P m = true
  · simp [hp]
  · simp [hp]
set_option maxRecDepth 20000 in
set_option maxHeartbeats 2000000 in
theorem letGo_any (A id n : Nat) (vL : Value) (l : List Ms) (w : World) (hA : Struct A [vL] w) (ho : OwnL 76 3 msEnc vL l w) (hl : l.length ≤ 1000) :
    Calls Try.prog 28 #[.pointer (some ⟨A, 0, none⟩), .agg #[.int .u16 (id : Int), .int .i64 (n : Int)]] w fun e w' => e = .returned (.tuple #[]) ∧ ∃ v', Struct A [v'] w' ∧ OwnL 76 3 msEnc v' (l.filter fun m => !sameN id n m) w' ∧ Turned [A] w w' ∧ ∀ k ∈ blk v', w.heap.size ≤ k := by
  obtain ⟨oa, cap, rfl, _, _, hr, _⟩ := ho.rowOf msEnc_len
  obtain ⟨N, hN⟩ : ∃ N, N = l.length := ⟨_, rfl⟩
  rw [← hN] at hl hA
  have HN : Hid (N = l.length) := hN
  clear hN ho
  have a0 := (hA.2 0 _ rfl).1
  have hAl := hA.1
  go_enter Try.func28, Try.ntmps28
  go_wp2_with fail
  obtain ⟨W0, hW0⟩ : ∃ W, W = w.alloc (.cells #[.int .u16 (id : Int), .int .i64 (n : Int)] 61) := ⟨_, rfl⟩
  obtain ⟨B, hB⟩ : ∃ B, B = w.heap.size := ⟨_, rfl⟩
  rw [← hW0, ← hB]
  have hT0 : Turned [] w W0 := by rw [hW0]; exact (Turned.refl [] w).alloc _
  have hS : Struct B [.int .u16 (id : Int), .int .i64 (n : Int)] W0 := by rw [hW0, hB]; exact Struct.new w [.int .u16 (id : Int), .int .i64 (n : Int)] _
  have HBW : Hid (B = w.heap.size) := hB
  have HSZ : Hid (W0.heap.size = w.heap.size + 1) := by show _ = _; rw [hW0]; simp
  clear hW0 hB
  go_loopw [4, 12] (fun o i wr => ∃ k : Nat, k ≤ N ∧ i = .int .i64 (k : Int) ∧ OwnL 76 3 msEnc o ((l.take k).filter fun m => !sameN id n m) wr ∧ Turned [] W0 wr ∧ ∀ x ∈ blk o, W0.heap.size ≤ x) (fun _ i _ => N - (intOf i).toNat)
  case atStart => exact ⟨0, by omega, rfl, OwnL.nil _ _ _ _, Turned.refl _ _, by simp [blk, Value.ownBlock]⟩
  case round =>
    obtain ⟨k, hk, rfl, hout, ht, hnew⟩ := hrel
    have hSr := hS.keep ht (by simp)
    have hTw := hT0.trans ht (by simp)
    obtain ⟨s0, _⟩ := hSr.2 0 _ rfl
    obtain ⟨s1, _⟩ := hSr.2 1 _ rfl
    have hB0 : B < wr.heap.size := hSr.1
    by_cases hlt2 : (k : Int) < (N : Int)
    · obtain ⟨m, he⟩ : ∃ m, l[k]? = some m := ⟨_, List.getElem?_eq_getElem (by have := HN.out; omega)⟩
      have hrow := hr.turned hTw (by simp)
      obtain ⟨g, off, rfl, hg, p0, p1, p2⟩ := ms_at hrow he
      have hql := name_neq m.id m.n id n
      have HX : Hid (_ = _) := filter_take (P := fun m => !sameN id n m) he
      obtain ⟨X, hX⟩ : ∃ X, X = (l.take k).filter fun m => !sameN id n m := ⟨_, rfl⟩
      have hXl : X.length ≤ 1000 := by rw [hX]; refine Nat.le_trans (List.length_filter_le _ _) ?_; rw [List.length_take]; omega
      rw [← hX] at hout HX
      clear hX
      cases hid : sameN id n m with
      | true =>
        have hq2 : (!(m.id == id && m.n == n)) = false := by rw [show (m.id == id && m.n == n) = true from hid]; rfl
        rw [hq2] at hql
        have HX2 : Hid ((l.take (k + 1)).filter (fun m => !sameN id n m) = X) := by
          show _ = _
          rw [HX.out, hid]; simp
        clear hid he HX hXl
        go_wp2_with fail
        go_roundw
        case rel => exact ⟨k + 1, by omega, by go_num, by rw [HX2.out]; exact hout.keep ((Turned.refl [] wr).alloc _) (by simp), ht.alloc _, hnew⟩
        case measure => simp [intOf]; omega
      | false =>
        have hq2 : (!(m.id == id && m.n == n)) = true := by rw [show (m.id == id && m.n == n) = false from hid]; rfl
        rw [hq2] at hql
        have HX2 : Hid ((l.take (k + 1)).filter (fun m => !sameN id n m) = X ++ [m]) := by
          show _ = _
          rw [HX.out, hid]; simp
        have b1 : X.length + 1 ≤ maxLen := by unfold maxLen; omega
        have b2 : (X.length + 1) * 24 ≤ 140737488355328 := by omega
        clear hid he HX hXl
        obtain ⟨W1, hW1⟩ : ∃ W, W = wr.alloc (.cells #[.int .u16 (m.id : Int), .int .i64 (m.n : Int), .map (some m.b)] 76) := ⟨_, rfl⟩
        have hT1 : Turned [] wr W1 := by rw [hW1]; exact (Turned.refl [] wr).alloc _
        go_wp2_with (at_builtin; refine wp_push (v := u4) elem_ms rfl _ _ rfl rfl (hout.keep (((Turned.refl [] wr).alloc _).alloc _) (by simp)) (wr.heap.size + 1) 0 1 1 [m] rfl rfl msEnc_len msEnc_one (by have := ms_cells m (wr.alloc (.cells #[.int .u16 (m.id : Int), .int .i64 (m.n : Int), .map (some m.b)] 76)) 76; rw [World.size_alloc] at this; exact this) b1 b2 ?_; intro v' w1 ho1 ht1 hb1)
        go_roundw
        case rel =>
          have hTA : Turned (blk u4) wr w1 := Turned.trans (S' := blk u4) ((((Turned.refl [] wr).alloc _).alloc _).mono (by simp)) ht1 (fun q hq _ => hq)
          refine ⟨k + 1, by omega, by go_num, by rw [HX2.out]; exact ho1, ht.trans hTA (fun q hq hl => by have := hnew q hq; omega), ?_⟩
          intro q hq
          rcases hb1 with h9 | h9
          · rw [h9] at hq; exact hnew q hq
          · rw [h9] at hq; simp at hq; have := ht.size; omega
        case measure => simp [intOf]; omega
    · have hkN : k = N := by omega
      have HF : Hid ((l.take k).filter (fun m => !sameN id n m) = l.filter fun m => !sameN id n m) := by
        show _ = _
        rw [hkN, HN.out, List.take_length]
      rw [HF.out] at hout
      obtain ⟨ov, cv, rfl, _, _⟩ := hout.form
      have hAr := hA.keep hTw (by simp)
      obtain ⟨a1, f1⟩ := hAr.2 0 _ rfl
      go_wp2_with fail
      go_end0
      have hnA : ∀ q ∈ blk (.slice ov (l.filter fun m => !sameN id n m).length cv), q ∉ [A] := by intro q hq hm; have := hnew q hq; have := HSZ.out; simp at hm; omega
      exact BtW.end0 ⟨_, hAr.set (i := 0) (by simp) _, hout.keep ((Turned.refl [A] wr).setCell (p := ⟨A, 0, none⟩) (.inl (by simp)) _) hnA, (hTw.mono (by simp)).setCell (p := ⟨A, 0, none⟩) (.inl (by simp)) _, fun q hq => by have := hnew q hq; have := HSZ.out; omega⟩
end FgW
end Go.Proofs.Ytkjlbginggppaaa


/- A message is kept (FgW). -/
namespace Go.Proofs.Ytkjlbginggppaaa
open Go.RowKit
set_option linter.unusedVariables false
set_option linter.unusedSimpArgs false

namespace FgW
/-- the list with this message in its place, or behind; of five the first one goes -/
def keepL (m : Ms) (l : List Ms) : List Ms :=
  if l.findIdx (sameN m.id m.n) < l.length then l.set (l.findIdx (sameN m.id m.n)) m else if l.length = 4 then (l ++ [m]).drop 1 else l ++ [m]
abbrev put3k (w : World) (g o : Nat) (m : Ms) : World := ((w.setCell ⟨g, o, none⟩ (.int .u16 (m.id : Int))).setCell ⟨g, o + 1, none⟩ (.int .i64 (m.n : Int))).setCell ⟨g, o + 2, none⟩ (.map (some m.b))
theorem put3k_eq (w : World) (g o : Nat) (m : Ms) : put3k w g o m = w.setCells g o (msEnc m) := rfl
theorem turned3k {S : List Nat} {w w' : World} {g : Nat} (h : Turned S w w') (hp : g ∈ S ∨ w.heap.size ≤ g) (o : Nat) (m : Ms) : Turned S w (put3k w' g o m) :=
  ((h.setCell (p := ⟨g, o, none⟩) hp _).setCell (p := ⟨g, o + 1, none⟩) hp _).setCell (p := ⟨g, o + 2, none⟩) hp _
set_option maxRecDepth 20000 in
set_option maxHeartbeats 4000000 in
theorem keep_any (A : Nat) (m : Ms) (vL : Value) (l : List Ms) (w : World) (hA : Struct A [vL] w) (ho : OwnL 76 3 msEnc vL l w) (hl : l.length ≤ 4) :
    Calls Try.prog 26 #[.pointer (some ⟨A, 0, none⟩), .agg #[.int .u16 (m.id : Int), .int .i64 (m.n : Int), .map (some m.b)]] w fun e w' => e = .returned (.tuple #[]) ∧ ∃ v', Struct A [v'] w' ∧ OwnL 76 3 msEnc v' (keepL m l) w' ∧ Turned [A] w w' ∧ ∀ k ∈ blk v', w.heap.size ≤ k := by
  obtain ⟨oa, cap, rfl, _, _, hr, _⟩ := ho.rowOf msEnc_len
  obtain ⟨N, hN⟩ : ∃ N, N = l.length := ⟨_, rfl⟩
  rw [← hN] at hA
  have HN : Hid (N = l.length ∧ l.length ≤ 4) := ⟨hN, hl⟩
  have hN4 : (N : Int) ≤ 4 := by omega
  clear hN ho hl
  have a0 := (hA.2 0 _ rfl).1
  have hAl := hA.1
  have hmf : ∀ (fn : Fn) (first cap : Array Value) (u : World), (Instr.makeFunc fn first cap).run Try.prog u = .ok (.func fn first cap) u := fun _ _ _ _ => rfl
  go_enter Try.func26, Try.ntmps26
  go_wp2_with fail
  obtain ⟨W0, hW0⟩ : ∃ W, W = w.alloc (.cells #[.int .u16 (m.id : Int), .int .i64 (m.n : Int), .map (some m.b)] 76) := ⟨_, rfl⟩
  obtain ⟨B, hB⟩ : ∃ B, B = w.heap.size := ⟨_, rfl⟩
  rw [← hW0, ← hB]
  have hT0 : Turned [] w W0 := by rw [hW0]; exact (Turned.refl [] w).alloc _
  have hS : Struct B [.int .u16 (m.id : Int), .int .i64 (m.n : Int), .map (some m.b)] W0 := by rw [hW0, hB]; exact Struct.new w [.int .u16 (m.id : Int), .int .i64 (m.n : Int), .map (some m.b)] _
  have HBW : Hid (B = w.heap.size) := hB
  have HSZ : Hid (W0.heap.size = w.heap.size + 1) := by show _ = _; rw [hW0]; simp
  clear hW0 hB
  refine (clone_any oa N cap l W0 HN.out.1.symm (hr.turned hT0 (by simp)) (by omega)).mono ?_
  rintro e u1 ⟨o1, c1, rfl, ho1, ht1, hb1⟩
  have hT1 := hT0.trans ht1 (by simp)
  have hS1 := hS.keep ht1 (by simp)
  have hA1 := hA.keep hT1 (by simp)
  obtain ⟨o1', c1', e1, hc1, _, hr1, _⟩ := ho1.rowOf msEnc_len
  injection e1 with e1 e2 e3
  subst e1
  subst e3
  clear e2
  have kI := index_any o1 c1 l B m.id m.n u1 hS1.1 (hS1.2 0 _ rfl).1 (hS1.2 1 _ rfl).1 hr1 (by have := HN.out; omega)
  rw [← HN.out.1] at kI
  obtain ⟨z, hz⟩ : ∃ z, z = posN m.id m.n l := ⟨_, rfl⟩
  rw [← hz] at kI
  by_cases hf : l.findIdx (sameN m.id m.n) < l.length
  · obtain ⟨k, hk⟩ : ∃ k, k = l.findIdx (sameN m.id m.n) := ⟨_, rfl⟩
    rw [← hk] at hf
    have hzk : z = (k : Int) := by rw [hz]; unfold posN; rw [← hk, if_pos hf]
    rw [hzk] at kI
    have hkN : (k : Int) < (N : Int) := by have := HN.out; omega
    have HK : Hid (keepL m l = l.set k m) := by
      show _ = _
      unfold keepL
      rw [← hk, if_pos hf]
    have HF : Hid (k < l.length) := hf
    clear hz hk hzk hf
    go_wp2_with (go_at_call 43; (with_reducible refine kI.mono ?_); rintro e u2 ⟨rfl, ht2⟩; have ho2 := ho1.keep ht2 (by simp); have hS2 := hS1.keep ht2 (by simp); have hA2 := hA1.keep ht2 (by simp); have hT2 := hT1.trans ht2 (by simp); obtain ⟨g, cg, hv, hbk, hgl, hcl⟩ := ho2.cell msEnc_len (List.getElem?_eq_getElem HF.out); injection hv with hv1 hv2 hv3; subst hv1; have c0 := (hcl 0 _ rfl).1; have c1_ := (hcl 1 _ rfl).1; have c2 := (hcl 2 _ rfl).1; have f0 := (hcl 0 _ rfl).2; have f1 := (hcl 1 _ rfl).2; have f2 := (hcl 2 _ rfl).2; rw [Nat.add_zero] at c0 f0; have a2 := (hA2.2 0 _ rfl).1; have fA := (hA2.2 0 _ rfl).2; have hgA : ¬ g = A := (by intro e9; have h9 := hb1 g (by rw [hbk]; simp); have := HSZ.out; omega); have hAg : ¬ A = g := (by intro e9; exact hgA e9.symm); have s0 := (hS2.2 0 _ rfl).1; have s1 := (hS2.2 1 _ rfl).1; have s2 := (hS2.2 2 _ rfl).1; clear hv2 hv3 hcl)
    go_end0
    have hO3 := ho2.sets msEnc_len rfl HF.out m rfl
    rw [← put3k_eq] at hO3
    have hT3 : Turned [g] u2 (put3k u2 g (k * 3) m) := turned3k (Turned.refl [g] u2) (.inl (by simp)) _ _
    have hA3 := hA2.keep hT3 (by simpa using hAg)
    have hgw : ∀ q ∈ blk (.slice (some ⟨g, 0, none⟩) N c1), w.heap.size ≤ q := fun q hq => by have := hb1 q hq; have := HSZ.out; omega
    have hT4 : Turned [] w (put3k u2 g (k * 3) m) := Turned.trans (S' := [g]) hT2 hT3 (fun q hq hl => by have := hgw q (by rw [hbk]; exact hq); omega)
    refine BtW.end0 ⟨_, hA3.set (i := 0) (by simp) _, ?_, (hT4.mono (by simp)).setCell (p := ⟨A, 0, none⟩) (.inl (by simp)) _, hgw⟩
    rw [HK.out]
    exact hO3.keep ((Turned.refl [A] _).setCell (p := ⟨A, 0, none⟩) (.inl (by simp)) _) (by intro q hq hm; rw [hbk] at hq; simp at hq hm; omega)
  · have hzk : z = -1 := by rw [hz]; unfold posN; rw [if_neg hf]
    rw [hzk] at kI
    have HK : Hid (keepL m l = if l.length = 4 then (l ++ [m]).drop 1 else l ++ [m]) := by
      show _ = _
      unfold keepL
      rw [if_neg hf]
    clear hz hzk hf
    have b1 : l.length + 1 ≤ maxLen := by have := HN.out; unfold maxLen; omega
    have b2 : (l.length + 1) * 24 ≤ 140737488355328 := by have := HN.out; omega
    by_cases h4 : l.length = 4
    · have HK2 : Hid (keepL m l = (l ++ [m]).drop 1) := by show _ = _; rw [HK.out, if_pos h4]
      go_wp2_with (first | (go_at_call 43; (with_reducible refine kI.mono ?_); rintro e u2 ⟨rfl, ht2⟩; have ho2 := ho1.keep ht2 (by simp); have hS2 := hS1.keep ht2 (by simp); have hA2 := hA1.keep ht2 (by simp); have hT2 := hT1.trans ht2 (by simp); have s0 := (hS2.2 0 _ rfl).1; have s1 := (hS2.2 1 _ rfl).1; have s2 := (hS2.2 2 _ rfl).1) | (at_builtin; refine wp_push (v := .slice o1 N c1) elem_ms rfl _ _ rfl rfl (ho2.keep ((Turned.refl [] u2).alloc _) (by simp)) u2.heap.size 0 1 1 [m] rfl rfl msEnc_len msEnc_one (ms_cells m u2 _) b1 b2 ?_; intro v3 u3 ho3 ht3 hb3; obtain ⟨o3, c3, rfl, _, _⟩ := ho3.form; obtain ⟨N5, hN5⟩ : ∃ n, n = (l ++ [m]).length := ⟨_, rfl⟩; rw [← hN5] at ho3 hb3 ⊢; have q5 : (4 : Int) < (N5 : Int) := (by rw [hN5]; have := HN.out; simp; omega); have HN5 : Hid (N5 = (l ++ [m]).length) := hN5; clear hN5; have hT3 : Turned [] w u3 := (Turned.trans (S' := blk (.slice o1 N c1)) (hT2.alloc _) ht3 (fun q hq hl => (by have := hb1 q hq; have := HSZ.out; omega))); have hA3 := hA.keep hT3 (by simp); have a3 := (hA3.2 0 _ rfl).1; have f3 := (hA3.2 0 _ rfl).2))
      have hb5 : ∀ q ∈ blk (.slice o3 N5 c3), w.heap.size + 1 ≤ q := by
        intro q hq
        rcases hb3 with h9 | h9
        · rw [h9] at hq; have := hb1 q hq; have := HSZ.out; omega
        · rw [h9] at hq; simp at hq; have := hT2.size; have := hS2.1; have := HBW.out; omega
      have kD : Calls Try.prog 45 #[.slice o3 N5 c3, .int .i64 0, .int .i64 1] u3 _ := delete_any (.slice o3 N5 c3) (l ++ [m]) 0 u3 ho3 (by rw [← HN5.out]; omega) (by rw [← HN5.out]; have := HN5.out; simp at this; omega)
      (go_at_call 45; (with_reducible refine kD.mono ?_); rintro e u4 ⟨v4, rfl, ho4, ht4, hb4⟩)
      have hT4 : Turned [] w u4 := Turned.trans (S' := blk (.slice o3 N5 c3)) hT3 ht4 (fun q hq hl => by have := hb5 q hq; omega)
      have hA4 := hA.keep hT4 (by simp)
      have a4 := (hA4.2 0 _ rfl).1
      have f4 := (hA4.2 0 _ rfl).2
      obtain ⟨o4, c4, rfl, _, _⟩ := ho4.form
      obtain ⟨N6, hN6⟩ : ∃ n, n = ((l ++ [m]).take 0 ++ (l ++ [m]).drop (0 + 1)).length := ⟨_, rfl⟩
      rw [← hN6] at ho4 hb4 ⊢
      clear hN6 kD
      go_wp2_with fail
      go_end0
      refine BtW.end0 ⟨_, hA4.set (i := 0) (by simp) _, ?_, (hT4.mono (by simp)).setCell (p := ⟨A, 0, none⟩) (.inl (by simp)) _, fun q hq => by rw [hb4] at hq; have := hb5 q hq; omega⟩
      rw [HK2.out]
      exact ho4.keep ((Turned.refl [A] u4).setCell (p := ⟨A, 0, none⟩) (.inl (by simp)) _) (by intro q hq hm; rw [hb4] at hq; have := hb5 q hq; simp at hm; omega)
    · have HK2 : Hid (keepL m l = l ++ [m]) := by show _ = _; rw [HK.out, if_neg h4]
      go_wp2_with (first | (go_at_call 43; (with_reducible refine kI.mono ?_); rintro e u2 ⟨rfl, ht2⟩; have ho2 := ho1.keep ht2 (by simp); have hS2 := hS1.keep ht2 (by simp); have hA2 := hA1.keep ht2 (by simp); have hT2 := hT1.trans ht2 (by simp); have s0 := (hS2.2 0 _ rfl).1; have s1 := (hS2.2 1 _ rfl).1; have s2 := (hS2.2 2 _ rfl).1) | (at_builtin; refine wp_push (v := .slice o1 N c1) elem_ms rfl _ _ rfl rfl (ho2.keep ((Turned.refl [] u2).alloc _) (by simp)) u2.heap.size 0 1 1 [m] rfl rfl msEnc_len msEnc_one (ms_cells m u2 _) b1 b2 ?_; intro v3 u3 ho3 ht3 hb3; obtain ⟨o3, c3, rfl, _, _⟩ := ho3.form; obtain ⟨N5, hN5⟩ : ∃ n, n = (l ++ [m]).length := ⟨_, rfl⟩; rw [← hN5] at ho3 hb3 ⊢; have q5 : ¬ (4 : Int) < (N5 : Int) := (by rw [hN5]; have := HN.out; simp; omega); have HN5 : Hid (N5 = (l ++ [m]).length) := hN5; clear hN5; have hT3 : Turned [] w u3 := (Turned.trans (S' := blk (.slice o1 N c1)) (hT2.alloc _) ht3 (fun q hq hl => (by have := hb1 q hq; have := HSZ.out; omega))); have hA3 := hA.keep hT3 (by simp); have a3 := (hA3.2 0 _ rfl).1; have f3 := (hA3.2 0 _ rfl).2))
      have hb5 : ∀ q ∈ blk (.slice o3 N5 c3), w.heap.size + 1 ≤ q := by
        intro q hq
        rcases hb3 with h9 | h9
        · rw [h9] at hq; have := hb1 q hq; have := HSZ.out; omega
        · rw [h9] at hq; simp at hq; have := hT2.size; have := hS2.1; have := HBW.out; omega
      go_end0
      refine BtW.end0 ⟨_, hA3.set (i := 0) (by simp) _, ?_, (hT3.mono (by simp)).setCell (p := ⟨A, 0, none⟩) (.inl (by simp)) _, fun q hq => by have := hb5 q hq; omega⟩
      rw [HK2.out]
      exact ho3.keep ((Turned.refl [A] u3).setCell (p := ⟨A, 0, none⟩) (.inl (by simp)) _) (by intro q hq hm; have := hb5 q hq; simp at hm; omega)
end FgW
end Go.Proofs.Ytkjlbginggppaaa


/- What the reference's writer of bits does, as a call: its bytes (BtR). -/
namespace Go.Proofs.Ytkjlbginggppaaa
open Go.RowKit
set_option linter.unusedVariables false

namespace BtR
theorem val_next {l : List Bool} {b : Bool} {i d : Nat} (h : l[i + d]? = some b) : Bt.val ((l.drop i).take (d + 1)) = Bt.val ((l.drop i).take d) + 2 ^ d * b.toNat := by
  have hi : i + d < l.length := (List.getElem?_eq_some_iff.1 h).1
  have e : (l.drop i)[d]? = some b := by rw [List.getElem?_drop]; exact h
  rw [List.take_add_one, e, show (some b).toList = [b] from rfl, Bt.val_snoc, List.length_take, List.length_drop, Nat.min_eq_left (by omega)]
theorem byte_full {l : List Bool} {j d : Nat} (h : d = 8 ∨ 8 * j + d = l.length) (hd : d ≤ 8) : Bt.val ((l.drop (8 * j)).take d) = Bt.byteAt l j := by
  unfold Bt.byteAt
  rcases h with rfl | h
  · rfl
  · rw [List.take_of_length_le (i := d) (by rw [List.length_drop]; omega), List.take_of_length_le (i := 8) (by rw [List.length_drop]; omega)]
theorem pack_next {l : List Bool} {j : Nat} (h : 8 * j < l.length) : (Bt.pack l).take j ++ [Bt.byteAt l j] = (Bt.pack l).take (j + 1) := by
  have hj : j < (Bt.pack l).length := by rw [Bt.pack_length]; omega
  rw [List.take_add_one, List.getElem?_eq_getElem hj]
  simp [Bt.pack]
theorem val_take_lt (l : List Bool) (i d : Nat) (hd : d ≤ 8) : Bt.val ((l.drop i).take d) < 256 := by
  have := Bt.val_lt ((l.drop i).take d)
  have h2 : 2 ^ ((l.drop i).take d).length ≤ 2 ^ 8 := Nat.pow_le_pow_right (by omega) (by rw [List.length_take]; omega)
  omega
/-- 2 to the d, d from 0 to 8 -/
theorem pow_le8 {d : Nat} (h : d ≤ 8) : 2 ^ d ≤ 256 := by
  have : 2 ^ d ≤ 2 ^ 8 := Nat.pow_le_pow_right (by omega) h
  omega

theorem fresh {w wr : World} {v v' : Value} {o : Obj} (hnew : ∀ k ∈ blk v, w.heap.size ≤ k) (ht : Turned [] w wr) (hb : blk v' = blk v ∨ blk v' = [(wr.alloc o).heap.size]) : ∀ k ∈ blk v', w.heap.size ≤ k := by
  have := ht.size
  intro k hk
  rcases hb with h | h
  · rw [h] at hk; exact hnew k hk
  · rw [h] at hk; simp at hk; omega

set_option maxHeartbeats 2000000 in
theorem bytes_any (p : Nat) (l : List Bool) (F : List Nat) (w : World) (h : RB p l F w) (hl : l.length ≤ 549755813888) :
    Calls Try.prog 22 #[.pointer (some ⟨p, 0, none⟩)] w fun e w' => ∃ v', e = .returned v' ∧ OwnL 5 1 byEnc v' (Bt.pack l) w' ∧ Turned [] w w' ∧ ∀ k ∈ blk v', w.heap.size ≤ k := by
  have hpl := Bt.pack_length l
  go_enter Try.func22, Try.ntmps22
  go_wp2_with fail
  go_loopw [3, 4] (fun v i wr => ∃ j : Nat, 8 * j < l.length + 8 ∧ i = .int .i64 ((8 * j : Nat) : Int) ∧ OwnL 5 1 byEnc v ((Bt.pack l).take j) wr ∧ Turned [] w wr ∧ ∀ k ∈ blk v, w.heap.size ≤ k) (fun _ i _ => l.length + 8 - (intOf i).toNat)
  case atStart => exact ⟨0, by omega, rfl, OwnL.nil _ _ _ _, Turned.refl _ _, by simp [blk, Value.ownBlock]⟩
  case round =>
    obtain ⟨j, hj, rfl, ho, ht, hnew⟩ := hrel
    obtain ⟨v0, hs0, hb0, hF, hp⟩ := h.keep ht (by simp)
    have c0 := (hs0.2 0 _ rfl).1
    obtain ⟨oa, cap, rfl, _, _, hr, _⟩ := hb0.rowOf bEnc_len
    by_cases hlt : ((8 * j : Nat) : Int) < (l.length : Int)
    · have HJ : Hid (8 * j < l.length) := by show _ < _; omega
      have HP : Hid ((Bt.pack l).length = (l.length + 7) / 8) := hpl
      clear hpl hj
      go_wp2_with fail
      go_loop [5, 6, 7] (fun c one k => ∃ d : Nat, d ≤ 8 ∧ 8 * j + d ≤ l.length ∧ k = .int .i64 ((8 * j + d : Nat) : Int) ∧ c = .int .i64 ((Bt.val ((l.drop (8 * j)).take d) : Nat) : Int) ∧ one = .int .i64 ((2 ^ d : Nat) : Int)) (fun _ _ k => 8 * j + 8 - (intOf k).toNat)
      case atStart => exact ⟨0, by omega, by have := HJ.out; omega, by simp, rfl, rfl⟩
      case round =>
        obtain ⟨d, hd, hdl, rfl, rfl, rfl⟩ := hrel
        by_cases hin : d < 8 ∧ 8 * j + d < l.length
        · obtain ⟨h8, hk⟩ := hin
          obtain ⟨b, hb⟩ : ∃ b, l[8 * j + d]? = some b := ⟨_, List.getElem?_eq_getElem hk⟩
          obtain ⟨g, off, rfl, hg, hc⟩ := hr _ _ hb
          have e0 := hc 0 _ rfl
          rw [Nat.mul_one, Nat.add_zero] at e0
          have HV : Hid (Bt.val ((l.drop (8 * j)).take (d + 1)) = Bt.val ((l.drop (8 * j)).take d) + 2 ^ d * b.toNat) := val_next hb
          have hv := val_take_lt l (8 * j) d hd
          have hpw := pow_le8 hd
          have hp2 : 2 ^ (d + 1) = 2 * 2 ^ d := by rw [Nat.pow_succ]; omega
          have HP2 : Hid ((2 : Int) ^ (d + 1) = ((2 ^ d : Nat) : Int) * 2) := by
            show (2 : Int) ^ (d + 1) = ((2 ^ d : Nat) : Int) * 2
            have e : (2 : Int) ^ (d + 1) = ((2 ^ (d + 1) : Nat) : Int) := by simp
            rw [e, hp2]; omega
          clear hp2
          obtain ⟨x, hx⟩ : ∃ x, x = Bt.val ((l.drop (8 * j)).take d) := ⟨_, rfl⟩
          obtain ⟨y, hy⟩ : ∃ y, y = 2 ^ d := ⟨_, rfl⟩
          rw [← hx] at hv HV ⊢
          rw [← hy] at hpw HV HP2 ⊢
          clear hx hy
          have i1 : ((8 * j + d : Nat) : Int) < (8 * j : Nat) + 8 := by omega
          have i2 : ((8 * j + d : Nat) : Int) < (l.length : Int) := by omega
          cases b
          all_goals
            go_wp2_with fail
            go_round
            case rel => exact ⟨_, _, _, ⟨d + 1, by omega, by omega, by go_num, (by rw [HV.out]; simp), by rw [HP2.out]⟩, rfl, rfl, rfl⟩
            case measure => simp [intOf]; omega
        · have hfull := byte_full (l := l) (j := j) (d := d) (by omega) hd
          have hbl : Bt.byteAt l j < 256 := by rw [← hfull]; exact val_take_lt l (8 * j) d hd
          have HN : Hid ((Bt.pack l).take j ++ [Bt.byteAt l j] = (Bt.pack l).take (j + 1)) := pack_next HJ.out
          have b1 : ((Bt.pack l).take j).length + 1 ≤ maxLen := by have := HP.out; rw [List.length_take]; unfold maxLen; omega
          have b2 : (((Bt.pack l).take j).length + 1) * 1 ≤ 140737488355328 := by have := HP.out; rw [List.length_take]; omega
          rw [hfull]
          obtain ⟨x, hx⟩ : ∃ x, x = Bt.byteAt l j := ⟨_, rfl⟩
          rw [← hx] at hbl HN ⊢
          clear hfull hx
          obtain ⟨lj, hlj⟩ : ∃ lj, lj = (Bt.pack l).take j := ⟨_, rfl⟩
          rw [← hlj] at b1 b2 ho HN
          clear hlj
          have hwx : (x : Int) % 256 = (x : Int) := by omega
          have hin' : 8 ≤ d ∨ l.length ≤ 8 * j + d := by omega
          clear hin
          by_cases h8 : d < 8
          · have hlen : ((8 * j + d : Nat) : Int) = (l.length : Int) := by omega
            have i1 : ((8 * j + d : Nat) : Int) < (8 * j : Nat) + 8 := by omega
            have i2 : ¬ ((8 * j + d : Nat) : Int) < (l.length : Int) := by omega
            clear hin'
            go_wp2_with (at_builtin; refine wp_push (v := u3) elem_u8 rfl _ _ rfl rfl (ho.keep ((Turned.refl [] wr).alloc _) (by simp)) wr.heap.size 0 1 1 [x] rfl rfl byEnc_len byEnc_one (one_cell rfl wr _) b1 b2 ?_; intro v' w1 ho1 ht1 hb1)
            go_roundw
            case rel => exact ⟨j + 1, by have := HJ.out; omega, by go_num, by rw [← HN.out]; exact ho1, ht.trans (((Turned.refl (blk u3) wr).alloc _).trans ht1 (fun k hk _ => hk)) (fun k hk hl => by have := hnew k hk; omega), fresh hnew ht hb1⟩
            case measure => have := HJ.out; simp [intOf]; omega
          · have i1 : ¬ ((8 * j + d : Nat) : Int) < (8 * j : Nat) + 8 := by omega
            clear hin'
            go_wp2_with (at_builtin; refine wp_push (v := u3) elem_u8 rfl _ _ rfl rfl (ho.keep ((Turned.refl [] wr).alloc _) (by simp)) wr.heap.size 0 1 1 [x] rfl rfl byEnc_len byEnc_one (one_cell rfl wr _) b1 b2 ?_; intro v' w1 ho1 ht1 hb1)
            go_roundw
            case rel => exact ⟨j + 1, by have := HJ.out; omega, by go_num, by rw [← HN.out]; exact ho1, ht.trans (((Turned.refl (blk u3) wr).alloc _).trans ht1 (fun k hk _ => hk)) (fun k hk hl => by have := hnew k hk; omega), fresh hnew ht hb1⟩
            case measure => have := HJ.out; simp [intOf]; omega
    · have HJ : (Bt.pack l).take j = Bt.pack l := by rw [List.take_of_length_le (by omega)]
      rw [HJ] at ho
      go_wp2_with fail
      go_ret
      exact ⟨_, rfl, ho, ht, hnew⟩
end BtR
end Go.Proofs.Ytkjlbginggppaaa


/- A message's parts looked up in its map; whether it is whole; its bytes (FgW). -/
namespace Go.Proofs.Ytkjlbginggppaaa
open Go.RowKit Go.Maps
set_option linter.unusedVariables false
set_option linter.unusedSimpArgs false

namespace FgW
theorem zero_bytes (w : World) : (zeroValue 25).run Try.prog w = .ok (.slice none 0 0) w := by
  have ht : (Try.prog.info? 25).bind (fun i => i.zero) = some (.slice none 0 0) := by kernel_rfl
  cases hi : Try.prog.info? 25 with
  | none => rw [hi] at ht; cases ht
  | some i =>
    rw [hi] at ht
    have hz : i.zero = some (.slice none 0 0) := ht
    simp [zeroValue, typeInfo, hi, hz]
theorem nodup_one {ps : List (Fg.P × Value)} (hn : (ps.map fun q => q.1.at_).Nodup) {q : Fg.P × Value} (hq : q ∈ ps) : ps.filter (fun r => r.1.at_ == q.1.at_) = [q] := by
  induction ps with
  | nil => cases hq
  | cons a ps ih =>
    rw [List.map_cons, List.nodup_cons] at hn
    rw [List.filter_cons]
    rcases List.mem_cons.1 hq with rfl | hq
    · rw [if_pos (by simp)]
      have : ps.filter (fun r => r.1.at_ == q.1.at_) = [] := by
        rw [List.filter_eq_nil_iff]
        intro r hr e
        exact hn.1 (List.mem_map.2 ⟨r, hr, eq_of_beq e⟩)
      rw [this]
    · rw [if_neg (fun e => hn.1 (List.mem_map.2 ⟨q, hq, (eq_of_beq e).symm⟩)), ih hn.2 hq]
/-- the bytes of the parts at a place -/
def atPlace (ps : List (Fg.P × Value)) (k : Nat) : List Nat := (ps.filter fun r => r.1.at_ == k).flatMap fun r => r.1.b
theorem look_at {b k : Nat} {ps : List (Fg.P × Value)} {w : World} (h : MapOf b ps w) (hk : k < 1000) (hn : (ps.map fun q => q.1.at_).Nodup) (hb : ∀ q ∈ ps, BytesAt q.2 q.1.b w) :
    ∃ s : SlV, (Instr.lookup 74 (.map (some b)) (.int .i64 (k : Int)) false).run Try.prog w = .ok (.slice s.o s.n s.c) w ∧ BytesAt (.slice s.o s.n s.c) (atPlace ps k) w := by
  obtain ⟨D, hown, hh, ha⟩ := h
  obtain ⟨v, q0, hrun, hv⟩ := hown.lookup keyI Try.underlying74 (zero_bytes w) (RV_slice none 0 0) (pk_key hk)
  obtain ⟨s, rfl, hy⟩ := RV_inv hv
  refine ⟨s, hrun, ?_⟩
  by_cases hx : ∃ q ∈ ps, q.1.at_ = k
  · obtain ⟨q, hq, rfl⟩ := hx
    have e := ha q hq (.held (.slice none 0 0))
    have e2 : D.atKey (pk q.1.at_) (.held (.slice none 0 0)) = .held (.slice s.o s.n s.c) := (congrArg Prod.fst hy)
    rw [e] at e2
    injection e2 with e3
    rw [← e3]
    have : atPlace ps q.1.at_ = q.1.b := by unfold atPlace; rw [nodup_one hn hq]; simp
    rw [this]
    exact hb q hq
  · have hno : Maps.has D (pk k) = false := by
      rw [hh, List.any_eq_false]
      intro q hq e
      rw [pk_same] at e
      exact hx ⟨q, hq, eq_of_beq e⟩
    have e2 : D.atKey (pk k) (.held (.slice none 0 0)) = .held (.slice s.o s.n s.c) := (congrArg Prod.fst hy)
    rw [atKey_of_not_has hno] at e2
    injection e2 with e3
    rw [← e3]
    have : atPlace ps k = [] := by
      unfold atPlace
      rw [List.filter_eq_nil_iff.2 (fun q hq e => hx ⟨q, hq, eq_of_beq e⟩)]; rfl
    rw [this]
    exact ⟨none, 0, rfl, Nat.le_refl _, fun i a hi => by simp at hi, fun a ha => by cases ha⟩
/-- with its answer whether there is one -/
theorem look_ok {ob : Option Nat} {k : Nat} {ps : List (Fg.P × Value)} {w : World} (h : MapAt ob ps w) (hk : k < 1000) :
    ∃ s : SlV, (Instr.lookup 74 (.map ob) (.int .i64 (k : Int)) true).run Try.prog w = .ok (.tuple #[.slice s.o s.n s.c, .bool (ps.any fun q => q.1.at_ == k)]) w := by
  cases ob with
  | none =>
    cases (show ps = [] from h)
    exact ⟨⟨none, 0, 0⟩, Maps.look_nil true keyI Try.underlying74 (zero_bytes w) (pk_key hk)⟩
  | some b =>
    obtain ⟨D, hown, hh, ha⟩ := (show MapOf b ps w from h)
    obtain ⟨v, q0, hrun, hv⟩ := hown.look_ok keyI Try.underlying74 (zero_bytes w) (RV_slice none 0 0) (pk_key hk)
    obtain ⟨s, rfl, hy⟩ := RV_inv hv
    refine ⟨s, ?_⟩
    rw [hrun, hh]
    simp only [pk_same]

set_option maxHeartbeats 1000000 in
theorem whole_any (id n b : Nat) (ps : List (Fg.P × Value)) (w : World) (h : MapOf b ps w) (hn : (ps.map fun q => q.1.at_).Nodup) :
    Calls Try.prog 27 #[.agg #[.int .u16 (id : Int), .int .i64 (n : Int), .map (some b)]] w fun e w' => e = .returned (.bool (ps.length == n)) ∧ Turned [] w w' := by
  obtain ⟨D, hown, hh, ha⟩ := h
  have hs := own_size hown hh hn
  have HS : Hid (Maps.size D = ps.length) := hs
  have hown' := hown.alloc (.cells #[.int .u16 (id : Int), .int .i64 (n : Int), .map (some b)] 76)
  clear hs
  go_enter Try.func27, Try.ntmps27
  go_wp2_with (at_len; refine wpList_len_own _ rfl _ 74 rfl 3 25 Try.underlying74 _ b _ D rfl hown' ?_)
  go_ret
  refine BtL.bool_ret ?_ ((Turned.refl [] w).alloc _)
  rw [HS.out]
  by_cases e : ps.length = n
  · rw [e]; exact (beq_self_eq_true (n : Int)).trans (beq_self_eq_true n).symm
  · have e2 : ¬ (ps.length : Int) = (n : Int) := by omega
    exact (beq_eq_false_iff_ne.2 e2).trans (beq_eq_false_iff_ne.2 e).symm

theorem flat_next {f : Nat → List Nat} (k : Nat) : (List.range (k + 1)).flatMap f = (List.range k).flatMap f ++ f k := by
  rw [List.range_succ, List.flatMap_append]; simp
theorem flat_len {f : Nat → List Nat} (hf : ∀ k, (f k).length ≤ 300) : ∀ k, ((List.range k).flatMap f).length ≤ 300 * k
  | 0 => by simp
  | k + 1 => by
    rw [flat_next, List.length_append]
    have := flat_len hf k
    have := hf k
    omega
set_option maxRecDepth 100000 in
set_option maxHeartbeats 4000000 in
theorem joined_any (id n b : Nat) (ps : List (Fg.P × Value)) (w : World) (h : MapOf b ps w) (hn : (ps.map fun q => q.1.at_).Nodup) (hb : ∀ q ∈ ps, BytesAt q.2 q.1.b w) (hl : ∀ q ∈ ps, q.1.b.length ≤ 300) (h14 : n ≤ 14) :
    Calls Try.prog 29 #[.agg #[.int .u16 (id : Int), .int .i64 (n : Int), .map (some b)]] w fun e w' => ∃ v', e = .returned v' ∧ OwnL 5 1 byEnc v' ((List.range n).flatMap (atPlace ps)) w' ∧ Turned [] w w' ∧ ∀ k ∈ blk v', w.heap.size ≤ k := by
  have hf : ∀ k, (atPlace ps k).length ≤ 300 := by
    intro k
    by_cases hx : ∃ q ∈ ps, q.1.at_ = k
    · obtain ⟨q, hq, rfl⟩ := hx
      have : atPlace ps q.1.at_ = q.1.b := by unfold atPlace; rw [nodup_one hn hq]; simp
      rw [this]; exact hl q hq
    · have : atPlace ps k = [] := by
        unfold atPlace
        rw [List.filter_eq_nil_iff.2 (fun q hq e => hx ⟨q, hq, eq_of_beq e⟩)]; rfl
      rw [this]; simp
  have hn14 : (n : Int) ≤ 14 := by omega
  go_enter Try.func29, Try.ntmps29
  go_wp2_with fail
  obtain ⟨W0, hW0⟩ : ∃ W0, W0 = w.alloc (.cells #[.int .u16 (id : Int), .int .i64 (n : Int), .map (some b)] 76) := ⟨_, rfl⟩
  obtain ⟨B, hB⟩ : ∃ B, B = w.heap.size := ⟨_, rfl⟩
  rw [← hW0, ← hB]
  have hT0 : Turned [] w W0 := by rw [hW0]; exact (Turned.refl [] w).alloc _
  have hS : Struct B [.int .u16 (id : Int), .int .i64 (n : Int), .map (some b)] W0 := by rw [hW0, hB]; exact Struct.new w [.int .u16 (id : Int), .int .i64 (n : Int), .map (some b)] _
  clear hW0 hB
  go_loopw [3, 8] (fun o i wr => ∃ k : Nat, k ≤ n ∧ i = .int .i64 (k : Int) ∧ OwnL 5 1 byEnc o ((List.range k).flatMap (atPlace ps)) wr ∧ Turned [] W0 wr ∧ ∀ x ∈ blk o, W0.heap.size ≤ x) (fun _ i _ => n - (intOf i).toNat)
  case atStart => exact ⟨0, by omega, rfl, OwnL.nil _ _ _ _, Turned.refl _ _, by simp [blk, Value.ownBlock]⟩
  case round =>
    obtain ⟨k, hk, rfl, hout, ht, hnew⟩ := hrel
    have hSr := hS.keep ht (by simp)
    have s2 := (hSr.2 2 _ rfl).1
    have hTw := hT0.trans ht (by simp)
    by_cases hlt : (k : Int) < (n : Int)
    · obtain ⟨s, hrun, hby⟩ := look_at (h.keep hTw (by simp)) (k := k) (by omega) hn (fun q hq => (hb q hq).keep hTw (by simp))
      obtain ⟨oa, cap, he, _, hrow, _⟩ := hby
      injection he with e1 e2 e3
      have HX : Hid (_ = _) := flat_next (f := atPlace ps) k
      have hXl := flat_len hf k
      have hfk := hf k
      obtain ⟨X, hX⟩ : ∃ X, X = (List.range k).flatMap (atPlace ps) := ⟨_, rfl⟩
      rw [← hX] at hout HX hXl
      obtain ⟨Y, hY⟩ : ∃ Y, Y = atPlace ps k := ⟨_, rfl⟩
      rw [← hY] at hrow HX hfk e2
      rw [← e1] at hrow
      have b1 : X.length + s.n ≤ maxLen := by unfold maxLen; omega
      have b2 : (X.length + s.n) * 1 ≤ 140737488355328 := by omega
      have HN : Hid (Y.length = s.n) := e2.symm
      clear hX hY e1 e2 e3 hXl hfk
      go_wp2_with (at_builtin; refine wp_pushAll (v := u3) elem_u8 rfl _ _ rfl rfl hout s.o s.n s.c Y HN.out rfl hrow byEnc_len byEnc_one b1 b2 ?_; intro v' w1 ho1 ht1 hb1)
      go_roundw
      case rel => exact ⟨k + 1, by omega, by go_num, by rw [HX.out]; exact ho1, ht.trans ht1 (fun x hx hl => by have := hnew x hx; omega), fun x hx => by
            rcases hb1 with h9 | h9
            · rw [h9] at hx; exact hnew x hx
            · rw [h9] at hx; simp at hx; have := ht.size; omega⟩
      case measure => simp [intOf]; omega
    · have hkn : k = n := by omega
      subst hkn
      go_wp2_with fail
      go_ret
      exact ⟨_, rfl, hout, hTw, fun x hx => Nat.le_trans hT0.size (hnew x hx)⟩
end FgW
end Go.Proofs.Ytkjlbginggppaaa


/- The program's assembler where it lies: what it keeps, and how that goes on (FgW). -/
namespace Go.Proofs.Ytkjlbginggppaaa
open Go.RowKit
set_option linter.unusedVariables false

/-- the parts of one message -/
def partsOf (x : Nat × Nat) (L : List (Fg.P × Value)) : List (Fg.P × Value) := L.filter fun q => Fg.nm q.1 == x
def key (m : Ms) : Nat × Nat := (m.id, m.n)
/-- the messages that wait tell the parts that are kept -/
structure Tl (L : List (Fg.P × Value)) (ms : List Ms) (w : World) : Prop where
  nms : ms.map key = Fg.names (L.map Prod.fst)
  mp : ∀ m ∈ ms, FgW.MapOf m.b (partsOf (key m) L) w
/-- who goes where a fifth one comes -/
def roomQ (p : Fg.P) (L : List (Fg.P × Value)) : List (Fg.P × Value) := match L with
  | [] => []
  | q :: l => if Fg.got p ((q :: l).map Prod.fst) = [] ∧ Fg.waits ((q :: l).map Prod.fst) = 4 then (q :: l).filter fun r => Fg.nm r.1 != Fg.nm q.1 else q :: l
theorem roomQ_cons (p : Fg.P) (q : Fg.P × Value) (l : List (Fg.P × Value)) : roomQ p (q :: l) = if Fg.got p ((q :: l).map Prod.fst) = [] ∧ Fg.waits ((q :: l).map Prod.fst) = 4 then (q :: l).filter fun r => Fg.nm r.1 != Fg.nm q.1 else q :: l := rfl
theorem room_cons (p q : Fg.P) (l : List Fg.P) : Fg.room p (q :: l) = if Fg.got p (q :: l) = [] ∧ Fg.waits (q :: l) = 4 then Fg.drop q (q :: l) else q :: l := rfl
theorem filter_fst (x : Nat × Nat) (L : List (Fg.P × Value)) : (L.filter fun r => Fg.nm r.1 != x).map Prod.fst = (L.map Prod.fst).filter fun r => Fg.nm r != x := by
  rw [List.filter_map]; rfl
theorem roomQ_fst (p : Fg.P) (L : List (Fg.P × Value)) : (roomQ p L).map Prod.fst = Fg.room p (L.map Prod.fst) := by
  cases L with
  | nil => rfl
  | cons q l =>
    rw [roomQ_cons, List.map_cons, room_cons]
    split
    · rw [filter_fst, Fg.drop_eq]; rfl
    · rfl
theorem sameN_key {m : Ms} {p : Fg.P} : sameN p.id p.n m = true ↔ key m = Fg.nm p := by
  rw [FgW.sameN_iff]; unfold key Fg.nm; simp
theorem partsOf_snoc_ne {x : Nat × Nat} {L : List (Fg.P × Value)} {q : Fg.P × Value} (h : Fg.nm q.1 ≠ x) : partsOf x (L ++ [q]) = partsOf x L := by
  unfold partsOf
  rw [List.filter_append]
  have : [q].filter (fun q => Fg.nm q.1 == x) = [] := by simp [h]
  rw [this, List.append_nil]
theorem partsOf_snoc (L : List (Fg.P × Value)) (q : Fg.P × Value) : partsOf (Fg.nm q.1) (L ++ [q]) = partsOf (Fg.nm q.1) L ++ [q] := by
  unfold partsOf
  rw [List.filter_append]
  simp
theorem partsOf_filter_ne {x y : Nat × Nat} (L : List (Fg.P × Value)) (h : x ≠ y) : partsOf x (L.filter fun r => Fg.nm r.1 != y) = partsOf x L := by
  unfold partsOf
  rw [List.filter_filter]
  apply List.filter_congr
  intro r _
  by_cases e : Fg.nm r.1 = x
  · simp [e, h]
  · simp [e]
theorem Tl.keep {L : List (Fg.P × Value)} {ms : List Ms} {w w' : World} {S : List Nat} (h : Tl L ms w) (ht : Turned S w w') (hd : ∀ m ∈ ms, m.b ∉ S) : Tl L ms w' :=
  ⟨h.nms, fun m hm => (h.mp m hm).keep ht (hd m hm)⟩
theorem Tl.mem {L : List (Fg.P × Value)} {ms : List Ms} {w : World} (h : Tl L ms w) {x : Nat × Nat} : x ∈ Fg.names (L.map Prod.fst) ↔ ∃ m ∈ ms, key m = x := by
  rw [← h.nms, List.mem_map]
/-- what is found -/
theorem Tl.find {L : List (Fg.P × Value)} {ms : List Ms} {w : World} (h : Tl L ms w) (p : Fg.P) : FgW.MapAt (FgW.mapN p.id p.n ms) (partsOf (Fg.nm p) L) w := by
  unfold FgW.mapN
  cases hf : ms.find? (sameN p.id p.n) with
  | none =>
    show partsOf _ L = []
    have hno : Fg.nm p ∉ Fg.names (L.map Prod.fst) := by
      rw [h.mem]
      rintro ⟨m, hm, e⟩
      have := List.find?_eq_none.1 hf m hm
      exact this (sameN_key.2 e)
    unfold partsOf
    rw [List.filter_eq_nil_iff]
    intro q hq e
    exact hno ((Fg.mem_names _).2 ⟨q.1, List.mem_map.2 ⟨q, hq, rfl⟩, eq_of_beq e⟩)
  | some m =>
    have hm := List.mem_of_find?_eq_some hf
    have hs := List.find?_some hf
    rw [← sameN_key.1 hs]
    exact h.mp m hm
theorem Tl.step {L : List (Fg.P × Value)} {ms : List Ms} {w : World} (h : Tl L ms w) {p : Fg.P} {v : Value} {b : Nat} (hb : FgW.MapOf b (partsOf (Fg.nm p) L ++ [(p, v)]) w) : Tl (roomQ p L ++ [(p, v)]) (FgW.keepL ⟨p.id, p.n, b⟩ ms) w := by
  have hnd := Fg.names_nodup (L.map Prod.fst)
  have hlen : ms.length = Fg.waits (L.map Prod.fst) := by rw [Fg.waits_names, ← h.nms, List.length_map]
  by_cases hx : Fg.nm p ∈ Fg.names (L.map Prod.fst)
  · have hroom : roomQ p L = L := by
      cases L with
      | nil => rfl
      | cons q l => rw [roomQ_cons, if_neg (fun e => (Fg.got_nil.1 e.1) hx)]
    obtain ⟨k, hk⟩ : ∃ k, k = ms.findIdx (sameN p.id p.n) := ⟨_, rfl⟩
    have hkl : k < ms.length := by
      rw [hk, List.findIdx_lt_length]
      obtain ⟨m, hm, e⟩ := h.mem.1 hx
      exact ⟨m, hm, sameN_key.2 e⟩
    have hkk : key ms[k] = Fg.nm p := by
      have := List.findIdx_getElem (xs := ms) (p := sameN p.id p.n) (w := by rw [← hk]; exact hkl)
      simp only [← hk] at this
      exact sameN_key.1 this
    have hke : FgW.keepL ⟨p.id, p.n, b⟩ ms = ms.set k ⟨p.id, p.n, b⟩ := by unfold FgW.keepL; rw [← hk, if_pos hkl]
    rw [hroom, hke]
    refine ⟨?_, ?_⟩
    · rw [List.map_append, List.map_singleton, Fg.names_snoc, if_pos hx, ← h.nms, List.map_set]
      refine List.ext_getElem (by simp) fun j h1 h2 => ?_
      rw [List.getElem_set]
      split
      · rename_i e
        subst e
        rw [List.getElem_map, hkk]; rfl
      · rfl
    · intro m hm
      obtain ⟨j, hj⟩ := List.getElem?_of_mem hm
      by_cases e : k = j
      · subst e
        rw [List.getElem?_set_self hkl] at hj
        cases hj
        show FgW.MapOf b (partsOf (Fg.nm p) (L ++ [(p, v)])) w
        rw [show partsOf (Fg.nm p) (L ++ [(p, v)]) = _ from partsOf_snoc L (p, v)]
        exact hb
      · rw [List.getElem?_set_ne e] at hj
        have hne : Fg.nm p ≠ key m := by
          intro e2
          obtain ⟨hjl, hje⟩ := List.getElem?_eq_some_iff.1 hj
          have a1 : (ms.map key)[j]'(by simpa using hjl) = Fg.nm p := by rw [List.getElem_map, hje, e2]
          have a2 : (ms.map key)[k]'(by simpa using hkl) = Fg.nm p := by rw [List.getElem_map, hkk]
          rw [← h.nms] at hnd
          exact e ((List.getElem_inj hnd).1 (a2.trans a1.symm))
        rw [partsOf_snoc_ne hne]
        exact h.mp m (List.mem_of_getElem? hj)
  · have hnf : ¬ ms.findIdx (sameN p.id p.n) < ms.length := by
      rw [List.findIdx_lt_length]
      rintro ⟨m, hm, e⟩
      exact hx (h.mem.2 ⟨m, hm, sameN_key.1 e⟩)
    have hg : Fg.got p (L.map Prod.fst) = [] := Fg.got_nil.2 hx
    by_cases h4 : Fg.waits (L.map Prod.fst) = 4
    · have hke : FgW.keepL ⟨p.id, p.n, b⟩ ms = (ms ++ [(⟨p.id, p.n, b⟩ : Ms)]).drop 1 := by unfold FgW.keepL; rw [if_neg hnf, if_pos (hlen.trans h4)]
      rw [hke]
      cases L with
      | nil => exact absurd h4 (by decide)
      | cons q l =>
        have hroom : roomQ p (q :: l) = (q :: l).filter fun r => Fg.nm r.1 != Fg.nm q.1 := by rw [roomQ_cons, if_pos ⟨hg, h4⟩]
        rw [hroom]
        obtain ⟨r, hr⟩ := Fg.names_head (p := q.1) (l := l.map Prod.fst)
        rw [← List.map_cons] at hr
        rw [hr] at hnd hx
        obtain ⟨hq1, hq2⟩ := List.nodup_cons.1 hnd
        cases ms with
        | nil => have := h.nms; rw [hr] at this; cases this
        | cons m0 ms =>
          have hk := h.nms
          rw [hr, List.map_cons] at hk
          injection hk with hk0 hkr
          show Tl _ (ms ++ [_]) w
          have hfil : ((Fg.nm q.1 :: r).filter fun y => y != Fg.nm q.1) = r := by
            have e2 : r.filter (fun y => y != Fg.nm q.1) = r := List.filter_eq_self.2 (fun y hy => by simpa using fun e => hq1 (by rw [← e]; exact hy))
            rw [List.filter_cons, if_neg (by simp), e2]
          refine ⟨?_, ?_⟩
          · rw [List.map_append, List.map_append, filter_fst, List.map_singleton, List.map_singleton, Fg.names_snoc, Fg.names_filter, hr, hfil, if_neg (fun e => hx (List.mem_cons_of_mem _ e)), hkr]
            rfl
          · intro m hm
            rcases List.mem_append.1 hm with hm | hm
            · have hkm : key m ∈ r := by rw [← hkr]; exact List.mem_map.2 ⟨m, hm, rfl⟩
              have hne1 : key m ≠ Fg.nm q.1 := fun e => hq1 (by rw [← e]; exact hkm)
              have hne2 : Fg.nm p ≠ key m := fun e => hx (List.mem_cons_of_mem _ (by rw [e]; exact hkm))
              rw [partsOf_snoc_ne hne2, partsOf_filter_ne _ hne1]
              exact h.mp m (List.mem_cons_of_mem _ hm)
            · rw [List.mem_singleton.1 hm]
              show FgW.MapOf b (partsOf (Fg.nm p) (_ ++ [(p, v)])) w
              rw [show partsOf (Fg.nm p) ((q :: l).filter (fun r => Fg.nm r.1 != Fg.nm q.1) ++ [(p, v)]) = _ from partsOf_snoc _ (p, v)]
              rw [partsOf_filter_ne _ (fun e => hx (by rw [e]; simp))]
              exact hb
    · have hke : FgW.keepL ⟨p.id, p.n, b⟩ ms = ms ++ [⟨p.id, p.n, b⟩] := by unfold FgW.keepL; rw [if_neg hnf, if_neg (fun e => h4 (hlen.symm.trans e))]
      have hroom : roomQ p L = L := by
        cases L with
        | nil => rfl
        | cons q l => rw [roomQ_cons, if_neg (fun e => h4 e.2)]
      rw [hke, hroom]
      refine ⟨?_, ?_⟩
      · rw [List.map_append, List.map_append, List.map_singleton, List.map_singleton, Fg.names_snoc, if_neg hx, h.nms]
        rfl
      · intro m hm
        rcases List.mem_append.1 hm with hm | hm
        · have hne2 : Fg.nm p ≠ key m := fun e => hx (h.mem.2 ⟨m, hm, e.symm⟩)
          rw [partsOf_snoc_ne hne2]
          exact h.mp m hm
        · rw [List.mem_singleton.1 hm]
          show FgW.MapOf b (partsOf (Fg.nm p) (_ ++ [(p, v)])) w
          rw [show partsOf (Fg.nm p) (L ++ [(p, v)]) = _ from partsOf_snoc _ (p, v)]
          exact hb
/-- one is let go -/
theorem Tl.filter {L : List (Fg.P × Value)} {ms : List Ms} {w : World} (h : Tl L ms w) (p : Fg.P) : Tl (L.filter fun r => Fg.nm r.1 != Fg.nm p) (ms.filter fun m => !sameN p.id p.n m) w := by
  have hk : ∀ m, (!sameN p.id p.n m) = (key m != Fg.nm p) := by
    intro m
    cases hs : sameN p.id p.n m
    · have : key m ≠ Fg.nm p := fun e => by rw [sameN_key.2 e] at hs; cases hs
      simp [this]
    · simp [sameN_key.1 hs]
  refine ⟨?_, ?_⟩
  · rw [filter_fst, Fg.names_filter, ← h.nms, List.filter_map]
    exact congrArg (List.map key) (List.filter_congr fun m _ => hk m)
  · intro m hm
    obtain ⟨h1, h2⟩ := List.mem_filter.1 hm
    rw [hk] at h2
    rw [partsOf_filter_ne _ (by simpa using h2)]
    exact h.mp m h1
theorem places_nodup {L : List (Fg.P × Value)} (h : Fg.Good (L.map Prod.fst)) (x : Nat × Nat) : ((partsOf x L).map fun q => q.1.at_).Nodup := by
  show List.Pairwise _ _
  rw [List.pairwise_map]
  have h1 := h.nd
  rw [List.pairwise_map] at h1
  refine List.Pairwise.imp_of_mem ?_ (List.Pairwise.sublist List.filter_sublist h1)
  intro a b ha hb hab e
  have e1 := eq_of_beq (List.mem_filter.1 ha).2
  have e2 := eq_of_beq (List.mem_filter.1 hb).2
  exact hab ⟨e1.trans e2.symm, e⟩
theorem old_parts (p : Fg.P) (L : List (Fg.P × Value)) : ((partsOf (Fg.nm p) L).any fun q => q.1.at_ == p.at_) = Fg.old p (L.map Prod.fst) := by
  unfold partsOf Fg.old
  rw [List.any_map, List.any_filter]
  congr 1
theorem parts_len (p : Fg.P) (L : List (Fg.P × Value)) : (partsOf (Fg.nm p) L).length = (Fg.got p (L.map Prod.fst)).length := by
  rw [Fg.got_eq, List.filter_map, List.length_map]; rfl
end Go.Proofs.Ytkjlbginggppaaa


/- Whether a message can have such a part (FgW). -/
namespace Go.Proofs.Ytkjlbginggppaaa
open Go.RowKit
set_option linter.unusedVariables false
set_option linter.unusedSimpArgs false

namespace FgW
def formedB (n i m : Nat) : Bool := decide (n ≤ 14) && decide (i < n) && decide (1 ≤ m) && (decide (i + 1 = n) || decide (m = 300))
set_option maxRecDepth 20000 in
set_option maxHeartbeats 2000000 in
theorem formed_any (id n i m c : Nat) (o : Option Addr) (w : World) (h0 : 1 ≤ n) (h1 : n ≤ 16) (h2 : i < 16) (h3 : m ≤ 400) :
    Calls Try.prog 40 #[.agg #[.int .u16 (id : Int), .int .i64 (n : Int), .int .i64 (i : Int), .slice o m c]] w fun e w' => e = .returned (.bool (formedB n i m)) ∧ Turned [] w w' := by
  have hT : Turned [] w (w.alloc (.cells #[.int .u16 (id : Int), .int .i64 (n : Int), .int .i64 (i : Int), .slice o m c] 66)) := (Turned.refl [] w).alloc _
  have six : ((14 : Int) < (n : Int) ∧ formedB n i m = false) ∨ (¬ (14 : Int) < (n : Int) ∧ (n : Int) ≤ (i : Int) ∧ formedB n i m = false) ∨ (¬ (14 : Int) < (n : Int) ∧ ¬ (n : Int) ≤ (i : Int) ∧ m = 0 ∧ formedB n i m = false) ∨
      (¬ (14 : Int) < (n : Int) ∧ ¬ (n : Int) ≤ (i : Int) ∧ ¬ (m : Int) = 0 ∧ (i : Int) = (n : Int) - 1 ∧ formedB n i m = true) ∨ (¬ (14 : Int) < (n : Int) ∧ ¬ (n : Int) ≤ (i : Int) ∧ ¬ (m : Int) = 0 ∧ ¬ (i : Int) = (n : Int) - 1 ∧ m = 300 ∧ formedB n i m = true) ∨
      (¬ (14 : Int) < (n : Int) ∧ ¬ (n : Int) ≤ (i : Int) ∧ ¬ (m : Int) = 0 ∧ ¬ (i : Int) = (n : Int) - 1 ∧ ¬ (m : Int) = 300 ∧ formedB n i m = false) := by
    by_cases a1 : (14 : Int) < (n : Int)
    · exact .inl ⟨a1, by unfold formedB; simp; omega⟩
    by_cases a2 : (n : Int) ≤ (i : Int)
    · exact .inr (.inl ⟨a1, a2, by unfold formedB; simp; omega⟩)
    by_cases a3 : m = 0
    · exact .inr (.inr (.inl ⟨a1, a2, a3, by unfold formedB; simp; omega⟩))
    by_cases a4 : (i : Int) = (n : Int) - 1
    · exact .inr (.inr (.inr (.inl ⟨a1, a2, by omega, a4, by unfold formedB; simp; omega⟩)))
    by_cases a5 : m = 300
    · exact .inr (.inr (.inr (.inr (.inl ⟨a1, a2, by omega, a4, a5, by unfold formedB; simp; omega⟩))))
    · exact .inr (.inr (.inr (.inr (.inr ⟨a1, a2, by omega, a4, by omega, by unfold formedB; simp; omega⟩))))
  have g0 : (1 : Int) ≤ (n : Int) := by omega
  have g1 : (n : Int) ≤ 16 := by omega
  have g2 : (i : Int) < 16 := by omega
  have HT : Hid _ := hT
  clear h0 h1 h2 hT
  rcases six with ⟨a1, hf⟩ | ⟨a1, a2, hf⟩ | ⟨a1, a2, a3, hf⟩ | ⟨a1, a2, a3, a4, hf⟩ | ⟨a1, a2, a3, a4, a5, hf⟩ | ⟨a1, a2, a3, a4, a5, hf⟩
  · rw [hf]; clear hf
    go_enter Try.func40, Try.ntmps40
    go_wp2_with fail
    refine bodyPost_ret (by simp [results, Try.results40, go_sem]) rfl ⟨rfl, (Turned.refl [] w).alloc _⟩
  · rw [hf]; clear hf
    go_enter Try.func40, Try.ntmps40
    go_wp2_with fail
    refine bodyPost_ret (by simp [results, Try.results40, go_sem]) rfl ⟨rfl, (Turned.refl [] w).alloc _⟩
  · rw [hf]; clear hf; subst a3
    go_enter Try.func40, Try.ntmps40
    go_wp2_with fail
    refine bodyPost_ret (by simp [results, Try.results40, go_sem]) rfl ⟨rfl, (Turned.refl [] w).alloc _⟩
  · have b4 : ((i : Int) == (n : Int) - 1) = true := beq_iff_eq.2 a4
    rw [hf]; clear hf a4
    go_enter Try.func40, Try.ntmps40
    go_wp2_with fail
    refine bodyPost_ret (by simp [results, Try.results40, go_sem]) rfl ⟨rfl, (Turned.refl [] w).alloc _⟩
  · have b4 : ((i : Int) == (n : Int) - 1) = false := beq_eq_false_iff_ne.2 a4
    rw [hf]; clear hf a4; subst a5
    go_enter Try.func40, Try.ntmps40
    go_wp2_with fail
    refine bodyPost_ret (by simp [results, Try.results40, go_sem]) rfl ⟨rfl, (Turned.refl [] w).alloc _⟩
  · have b4 : ((i : Int) == (n : Int) - 1) = false := beq_eq_false_iff_ne.2 a4
    have b5 : ((m : Int) == 300) = false := beq_eq_false_iff_ne.2 a5
    rw [hf]; clear hf a4 a5
    go_enter Try.func40, Try.ntmps40
    go_wp2_with fail
    refine bodyPost_ret (by simp [results, Try.results40, go_sem]) rfl ⟨rfl, (Turned.refl [] w).alloc _⟩
end FgW
end Go.Proofs.Ytkjlbginggppaaa


/- Numbers of n bits are put, with how many bits there are at most: the program's and the reference's. -/
namespace Go.Proofs.Ytkjlbginggppaaa
open Go.RowKit
set_option linter.unusedVariables false

theorem puts_nat (x n : Nat) (h : n ≤ 64) : BtW.puts x (n : Int) = Bt.bits x n := by
  unfold BtW.puts; rw [if_pos (by omega)]; rfl
theorem puts_len (x : Nat) (n : Int) : (BtW.puts x n).length ≤ 64 := by
  unfold BtW.puts
  split
  · rw [Bt.bits_length]; omega
  · simp

namespace BtR
/-- Put, with how many bits there are at most -/
theorem put_b {p : Nat} {M : List Bool} {F : List Nat} {x n : Int} {w : World} {b : Nat} (hx0 : 0 ≤ x) (hx : x < 18446744073709551616) (h : RB p M F w ∧ M.length ≤ b) (hb : b ≤ 549755813888) :
    Calls Try.prog 21 #[.pointer (some ⟨p, 0, none⟩), .int .u64 x, .int .i64 n] w fun e w' => e = .returned (.tuple #[]) ∧ ∃ F', (RB p (M ++ BtW.puts x.toNat n) F' w' ∧ (M ++ BtW.puts x.toNat n).length ≤ b + 64) ∧ Moved F F' w w' :=
  (put_any p M F x n hx0 hx w h.1 (by omega)).mono fun e w' ⟨he, F', h1, h2⟩ => ⟨he, F', ⟨h1, by have := puts_len x.toNat n; rw [List.length_append]; omega⟩, h2⟩
end BtR

namespace BtW
/-- Put, with how many bits there are at most -/
theorem put_b {p : Nat} {M : List Bool} {F : List Nat} {x n : Int} {w : World} {b : Nat} (hx0 : 0 ≤ x) (hx : x < 18446744073709551616) (h : PW p M F w ∧ M.length ≤ b) (hb : b ≤ 549755813888) :
    Calls Try.prog 34 #[.pointer (some ⟨p, 0, none⟩), .int .u64 x, .int .i64 n] w fun e w' => e = .returned (.tuple #[]) ∧ ∃ F', (PW p (M ++ BtW.puts x.toNat n) F' w' ∧ (M ++ BtW.puts x.toNat n).length ≤ b + 64) ∧ Moved F F' w w' :=
  (put_any p M F x n hx0 hx w h.1 (by omega)).mono fun e w' ⟨he, F', h1, h2⟩ => ⟨he, F', ⟨h1, by have := puts_len x.toNat n; rw [List.length_append]; omega⟩, h2⟩
end BtW
end Go.Proofs.Ytkjlbginggppaaa


/- The reference parts a message (FgR). -/
namespace Go.Proofs.Ytkjlbginggppaaa
open Go.RowKit
set_option linter.unusedVariables false
set_option linter.unusedSimpArgs false

/-- bytes, with the slice of them -/
def slEnc (q : List Nat × Value) : List Value := [q.2]
theorem slEnc_len {l : List (List Nat × Value)} : ∀ a ∈ l, (slEnc a).length = 1 := fun _ _ => rfl

theorem elem_sl : ElemOk Try.prog 27 25 (.slice none 0 0) 1 24 := ⟨by kernel_rfl, by kernel_rfl, rfl, by decide⟩

/-- v is the call's own list of the lists of bytes Ls, all of it new since w -/
def Lists (v : Value) (Ls : List (List Nat)) (w w' : World) : Prop :=
  ∃ Q : List (List Nat × Value), OwnL 25 1 slEnc v Q w' ∧ Q.map Prod.fst = Ls ∧ (∀ q ∈ Q, BytesAt q.2 q.1 w' ∧ ∀ k ∈ rblk q.2, w.heap.size ≤ k ∧ k ∉ blk v) ∧ ∀ k ∈ blk v, w.heap.size ≤ k

theorem own_bytes {v : Value} {l : List Nat} {w : World} (h : OwnL 5 1 byEnc v l w) : BytesAt v l w ∧ rblk v = blk v := by
  have hlt := h.lt
  obtain ⟨oa, cap, rfl, hc, _, hr, hsp⟩ := h.rowOf byEnc_len
  rcases h.2 with ⟨hv, hn⟩ | ⟨g, cap', cur, hv, _⟩
  · simp at hv
    obtain ⟨rfl, _, rfl⟩ := hv
    exact ⟨⟨none, _, rfl, hc, hr, fun a ha => by cases ha⟩, rfl⟩
  · simp at hv
    obtain ⟨rfl, rfl⟩ := hv
    exact ⟨⟨_, _, rfl, hc, hr, fun a ha => by cases ha; exact ⟨hlt g (by simp [blk, Value.ownBlock]), rfl⟩⟩, rfl⟩

namespace Fg
theorem head_puts {id n i : Nat} (h1 : id < 65536) (h0 : 1 ≤ n) (h2 : n ≤ 16) (h3 : i < 16) : Bt.pack ([] ++ BtW.puts ((id : Int)).toNat 16 ++ BtW.puts ((n : Int) - 1).toNat 4 ++ BtW.puts ((i : Int)).toNat 4) = [id % 256, id / 256, n - 1 + 16 * i] := by
  have e1 := puts_nat id 16 (by omega)
  have e2 := puts_nat (n - 1) 4 (by omega)
  have e3 := puts_nat i 4 (by omega)
  simp only [Int.cast_ofNat_Int] at e1 e2 e3
  rw [show ((n : Int) - 1).toNat = n - 1 by omega, Int.toNat_natCast, Int.toNat_natCast, e1, e2, e3, List.nil_append]
  exact head_bits h1 h2 h3
end Fg

theorem sl_one {q : List Nat × Value} (h : q.2.oneCell' = true) : ∀ a ∈ [q], ∀ u ∈ slEnc a, u.oneCell' = true := by
  intro a ha u hu
  rw [List.mem_singleton.1 ha] at hu
  simp [slEnc] at hu
  subst hu
  exact h
/-- one list more, behind an append -/
theorem Lists.push {v v' : Value} {Ls : List (List Nat)} {w wr V w1 : World} {Q : List (List Nat × Value)} {q : List Nat × Value} {o : Obj} (hQ : Q.map Prod.fst = Ls) (hq : ∀ q ∈ Q, BytesAt q.2 q.1 wr ∧ ∀ k ∈ rblk q.2, w.heap.size ≤ k ∧ k ∉ blk v) (hb : ∀ k ∈ blk v, w.heap.size ≤ k ∧ k < wr.heap.size)
    (hV : Turned [] wr V) (hw : w.heap.size ≤ wr.heap.size) (hn : BytesAt q.2 q.1 V) (hnb : ∀ k ∈ rblk q.2, wr.heap.size ≤ k) (ho : OwnL 25 1 slEnc v' (Q ++ [q]) w1) (ht : Turned (blk v) (V.alloc o) w1) (hb' : blk v' = blk v ∨ blk v' = [(V.alloc o).heap.size]) :
    Lists v' (Ls ++ [q.1]) w w1 := by
  have hVs := hV.size
  refine ⟨Q ++ [q], ho, by rw [List.map_append, hQ]; rfl, ?_, ?_⟩
  · intro a ha
    have hA : BytesAt a.2 a.1 V ∧ (∀ k ∈ rblk a.2, w.heap.size ≤ k ∧ k ∉ blk v) := by
      rcases List.mem_append.1 ha with e | e
      · exact ⟨(hq a e).1.keep hV (by simp), (hq a e).2⟩
      · rw [List.mem_singleton.1 e]
        exact ⟨hn, fun k hk => ⟨Nat.le_trans hw (hnb k hk), fun hm => by have := (hb k hm).2; have := hnb k hk; omega⟩⟩
    have hlt := hA.1.lt
    refine ⟨(hA.1.keep ((Turned.refl [] V).alloc o) (by simp)).keep ht (fun k hk hm => (hA.2 k hk).2 hm), fun k hk => ⟨(hA.2 k hk).1, fun hm => ?_⟩⟩
    rcases hb' with e | e
    · rw [e] at hm; exact (hA.2 k hk).2 hm
    · rw [e] at hm; simp at hm; have := hlt k hk; omega
  · intro k hk
    rcases hb' with e | e
    · rw [e] at hk; exact (hb k hk).1
    · rw [e] at hk; simp at hk; omega
theorem range_next {α : Type} (f : Nat → α) (c : Nat) : (List.range (c + 1)).map f = (List.range c).map f ++ [f c] := by
  rw [List.range_succ, List.map_append]; rfl
theorem piece_next {l : List Nat} {i c : Nat} {x : Nat} (hc : c < 300) (h : l[300 * i + c]? = some x) : (Fg.piece l i).take (c + 1) = (Fg.piece l i).take c ++ [x] := by
  have : (Fg.piece l i)[c]? = some x := by
    unfold Fg.piece
    rw [List.getElem?_take_of_lt hc, List.getElem?_drop, h]
  rw [List.take_add_one, this]; rfl

namespace FgR
set_option maxRecDepth 20000 in
set_option maxHeartbeats 8000000 in
theorem split_ok (id : Nat) (oa : Option Addr) (cap : Nat) (l : List Nat) (w : World) (hid : id < 65536) (hr : RowOf 1 byEnc oa l w) (h0 : 1 ≤ l.length) (h1 : l.length ≤ 4000) :
    Calls Try.prog 12 #[.int .u16 (id : Int), .slice oa l.length cap] w fun e w' => ∃ v, e = .returned (.tuple #[v, .int .i64 0]) ∧ Lists v ((Fg.split id l).map Fg.bytes) w w' ∧ Turned [] w w' := by
  obtain ⟨n, hn⟩ : ∃ n, n = l.length := ⟨_, rfl⟩
  obtain ⟨M, hM⟩ : ∃ M, M = Fg.many l := ⟨_, rfl⟩
  have hM1 : (M : Int) * 300 ≥ (n : Int) := by rw [hM]; unfold Fg.many; omega
  have hM2 : ((M : Int) - 1) * 300 < (n : Int) := by rw [hM]; unfold Fg.many; omega
  have hM3 : (M : Int) ≤ 14 := by rw [hM]; unfold Fg.many; omega
  have hM4 : (1 : Int) ≤ (M : Int) := by rw [hM]; unfold Fg.many; omega
  have hn0 : ¬ (n : Int) = 0 := by omega
  have hn1 : ¬ (4000 : Int) < (n : Int) := by omega
  have hn2 : (n : Int) ≤ 4000 := by omega
  have HM : Hid (M = Fg.many l) := hM
  have HNL : Hid (n = l.length) := hn
  rw [← hn]
  clear hn hM h0 h1
  go_enter Try.func12, Try.ntmps12
  go_wp2_with fail
  go_loopw [6] (fun i wr => ∃ k : Nat, (k : Int) ≤ (M : Int) ∧ i = .int .i64 (k : Int) ∧ wr = w) (fun i _ => 15 - (intOf i).toNat)
  case atStart => exact ⟨0, by omega, rfl, rfl⟩
  case round =>
    obtain ⟨k, hk, rfl, hw⟩ := hrel
    rw [hw]
    by_cases hlt : (k : Int) * 300 < (n : Int)
    · go_wp2_with fail
      go_roundw
      case rel => exact ⟨k + 1, by omega, by go_num, by first | trivial | rfl⟩
      case measure => simp [intOf]; omega
    · have hkM : k = M := by omega
      subst hkM
      clear hlt
      clear hk hw
      go_wp2_with fail
      go_loopw [7, 8] (fun o i wr => ∃ c : Nat, (c : Int) ≤ (k : Int) ∧ i = .int .i64 (c : Int) ∧ Lists o ((List.range c).map fun j => Fg.bytes (Fg.part id l j)) w wr ∧ Turned [] w wr) (fun _ i _ => 15 - (intOf i).toNat)
      case atStart => exact ⟨0, by omega, rfl, ⟨[], OwnL.nil _ _ _ _, rfl, fun q hq => (by cases hq), by simp [blk, Value.ownBlock]⟩, Turned.refl _ _⟩
      case round =>
        obtain ⟨c, hc, rfl, hLs, ht⟩ := hrel
        have hrw := hr.turned ht (by simp)
        by_cases hlt2 : (c : Int) < (k : Int)
        · obtain ⟨Q, hQo, hQm, hQq, hQb⟩ := hLs
          go_wp2_with fail
          obtain ⟨W1, hW1⟩ : ∃ W, W = wr.alloc (.cells #[.slice none 0 0] 69) := ⟨_, rfl⟩
          obtain ⟨P, hP⟩ : ∃ b, b = wr.heap.size := ⟨_, rfl⟩
          rw [← hW1, ← hP]
          have hp : BtR.RB P [] [P] W1 ∧ ([] : List Bool).length ≤ 1000 := ⟨by rw [hW1, hP]; exact RBits.new 4 wr 69, by simp⟩
          have hT1 : Turned [] wr W1 := by rw [hW1]; exact (Turned.refl [] wr).alloc _
          have hmv : Moved [P] [P] W1 W1 := Moved.refl _ _
          have hPw : wr.heap.size ≤ P := by omega
          have HH : Hid (_ = _) := Fg.head_puts (n := k) (i := c) hid (by omega) (by omega) (by omega)
          clear hW1 hP
          go_wp2_with (go_at_call 21; (with_reducible refine (BtR.put_b (by omega) (by omega) hp (by omega)).mono ?_); rintro e u ⟨rfl, F1, hp, hm1⟩; have hmv := hmv.trans hm1; clear hm1)
          refine (BtR.bytes_any _ _ _ _ hp.1 (by omega)).mono ?_
          rintro e u5 ⟨v5, rfl, ho5, ht5, hb5⟩
          rw [HH.out] at ho5
          have hmw : Turned [] wr u := hT1.trans hmv.1 (fun x hx hl => by simp at hx; omega)
          have hT5 : Turned [] wr u5 := hmw.trans ht5 (by simp)
          have hb5' : ∀ x ∈ blk v5, wr.heap.size ≤ x := fun x hx => Nat.le_trans hmw.size (hb5 x hx)
          have hr5 := hrw.turned hT5 (by simp)
          obtain ⟨pl, hpl⟩ : ∃ x, x = (Fg.piece l c).length := ⟨_, rfl⟩
          have hpl2 := Fg.piece_len l c
          have hpl3 : (pl : Int) ≤ 300 ∧ (c : Int) * 300 + (pl : Int) ≤ (n : Int) ∧ ((pl : Int) < 300 → (c : Int) * 300 + (pl : Int) = (n : Int)) := by have := HNL.out; omega
          obtain ⟨hpa, hpb, hpc⟩ := hpl3
          have HPL : Hid (pl = (Fg.piece l c).length) := hpl
          have HS : Hid (∀ x, c * 300 + x < n → ∃ y, l[300 * c + x]? = some y) := fun x hx => ⟨_, List.getElem?_eq_getElem (by have := HNL.out; omega)⟩
          have HQb : Hid (∀ x ∈ blk u7, w.heap.size ≤ x ∧ x < wr.heap.size) := fun x hx => ⟨hQb x hx, hQo.lt x hx⟩
          have hws := ht.size
          clear hp hmv ht5 hb5 hmw hT1 hpl hpl2 HH hr5 hQb
          go_wp2_with fail
          go_loopw [10, 11] (fun o i wx => ∃ d J : Nat, (d : Int) ≤ (pl : Int) ∧ J = c * 300 + d ∧ i = .int .i64 (J : Int) ∧ OwnL 5 1 byEnc o ([id % 256, id / 256, k - 1 + 16 * c] ++ (Fg.piece l c).take d) wx ∧ Turned [] wr wx ∧ ∀ x ∈ blk o, wr.heap.size ≤ x) (fun _ i _ => 5000 - (intOf i).toNat)
          case atStart => exact ⟨0, c * 300, by omega, rfl, by simp, by simpa using ho5, hT5, hb5'⟩
          case round =>
            obtain ⟨d, J, hd, hJ, rfl, hod, htd, hbd⟩ := hrel
            have HJ : Hid (J = c * 300 + d) := hJ
            have hJ5 : (J : Int) < 5000 := by omega
            by_cases hdl : (d : Int) < (pl : Int)
            · have g1 : (J : Int) < (c : Int) * 300 + 300 := by omega
              have g2 : (J : Int) < (n : Int) := by omega
              obtain ⟨y, hy⟩ := HS.out d (by omega)
              have HX : Hid (_ = _) := piece_next (by omega) hy
              rw [show 300 * c + d = J by omega] at hy
              have hrd := hrw.turned htd (by simp)
              obtain ⟨g, off, rfl, hg, hcy⟩ := hrd _ _ hy
              have e0 := hcy 0 _ rfl
              rw [Nat.mul_one, Nat.add_zero] at e0
              obtain ⟨X, hX⟩ : ∃ X, X = [id % 256, id / 256, k - 1 + 16 * c] ++ (Fg.piece l c).take d := ⟨_, rfl⟩
              have hXl : X.length ≤ 400 := by rw [hX]; simp; omega
              have HXE : Hid (X = _) := hX
              rw [← hX] at hod
              have b1 : X.length + 1 ≤ maxLen := by unfold maxLen; omega
              have b2 : (X.length + 1) * 1 ≤ 140737488355328 := by omega
              clear hX hXl hJ hcy hy hd
              go_wp2_with (at_builtin; refine wp_push (v := u10) elem_u8 rfl _ _ rfl rfl (hod.keep ((Turned.refl [] wr).alloc _) (by simp)) wr.heap.size 0 1 1 [y] rfl rfl byEnc_len byEnc_one (one_cell rfl wr _) b1 b2 ?_; intro v' w1 ho1 ht1 hb1)
              go_roundw
              case rel => exact ⟨d + 1, J + 1, by omega, by have := HJ.out; omega, by go_num, by rw [HX.out, ← List.append_assoc, ← HXE.out]; exact ho1, htd.trans (((Turned.refl (blk u10) wr).alloc _).trans ht1 (fun k hk _ => hk)) (fun x hx hl => by have := hbd x hx; omega), BtR.fresh hbd htd hb1⟩
              case measure => simp [intOf]; omega
            · have hdp : d = pl := by omega
              have hp : Hid (OwnL 5 1 byEnc u10 (Fg.bytes (Fg.part id l c)) wr) := by
                show OwnL 5 1 byEnc u10 _ wr
                rw [hdp, HPL.out, List.take_length] at hod
                have e : Fg.bytes (Fg.part id l c) = [id % 256, id / 256, k - 1 + 16 * c] ++ Fg.piece l c := by rw [HM.out]; rfl
                rw [e]; exact hod
              obtain ⟨hby, hrb⟩ := own_bytes hp.out
              obtain ⟨X, hX⟩ : ∃ X, X = Fg.bytes (Fg.part id l c) := ⟨_, rfl⟩
              have HXE : Hid (X = _) := hX
              rw [← hX] at hby
              have hone := hby.one
              have hQv := hQo.keep htd (by simp)
              have HB : Hid (BytesAt u10 X wr) := hby
              have HRB : Hid (∀ x ∈ rblk u10, _ ≤ x) := fun x hx => by rw [hrb] at hx; exact hbd x hx
              have HE : Hid (_ = _) := range_next (fun j => Fg.bytes (Fg.part id l j)) c
              have hQl : Q.length = c := by have := congrArg List.length hQm; simpa using this
              have b1 : Q.length + 1 ≤ maxLen := by unfold maxLen; omega
              have b2 : (Q.length + 1) * 24 ≤ 140737488355328 := by omega
              have hc9 : (c : Int) ≤ 14 := by omega
              have HID : Hid (id < 65536) := hid
              clear hod hp hby hrb hbd hQl hdp hJ hid hX
              obtain ⟨ov, mv, cv, rfl⟩ : ∃ (o : Option Addr) (m m2 : Nat), u10 = .slice o m m2 := by obtain ⟨o, cp, e, _⟩ := HB.out; exact ⟨o, _, cp, e⟩
              by_cases hf : (pl : Int) < 300
              · have g1 : (J : Int) < (c : Int) * 300 + 300 := by have := HJ.out; omega
                have g2 : ¬ (J : Int) < (n : Int) := by have := HJ.out; omega
                go_wp2_with (at_builtin; refine wp_push (v := u7) elem_sl rfl _ _ rfl rfl (hQv.keep ((Turned.refl [] wr).alloc _) (by simp)) wr.heap.size 0 1 1 [(X, .slice ov mv cv)] rfl rfl slEnc_len (sl_one hone) (one_cell rfl wr _) b1 b2 ?_; intro v' w1 ho1 ht1 hb1)
                go_roundw
                case rel => exact ⟨c + 1, by omega, by go_num, by rw [HE.out, ← HXE.out]; exact Lists.push hQm hQq HQb.out htd hws HB.out HRB.out ho1 ht1 hb1, (ht.trans htd (by simp)).trans (((Turned.refl (blk u7) wr).alloc _).trans ht1 (fun k hk _ => hk)) (fun x hx hl => by have := (HQb.out x hx).1; omega)⟩
                case measure => simp [intOf]; omega
              · have g1 : ¬ (J : Int) < (c : Int) * 300 + 300 := by have := HJ.out; omega
                go_wp2_with (at_builtin; refine wp_push (v := u7) elem_sl rfl _ _ rfl rfl (hQv.keep ((Turned.refl [] wr).alloc _) (by simp)) wr.heap.size 0 1 1 [(X, .slice ov mv cv)] rfl rfl slEnc_len (sl_one hone) (one_cell rfl wr _) b1 b2 ?_; intro v' w1 ho1 ht1 hb1)
                go_roundw
                case rel => exact ⟨c + 1, by omega, by go_num, by rw [HE.out, ← HXE.out]; exact Lists.push hQm hQq HQb.out htd hws HB.out HRB.out ho1 ht1 hb1, (ht.trans htd (by simp)).trans (((Turned.refl (blk u7) wr).alloc _).trans ht1 (fun k hk _ => hk)) (fun x hx hl => by have := (HQb.out x hx).1; omega)⟩
                case measure => simp [intOf]; omega
        · have hck : c = k := by omega
          rw [hck] at hLs
          have HF : Hid (Lists u7 ((Fg.split id l).map Fg.bytes) w wr) := by
            show Lists u7 _ w wr
            unfold Fg.split
            rw [List.map_map, ← HM.out]
            exact hLs
          clear hLs
          go_wp2_with fail
          refine bodyPost_ret (by simp [results, Try.results12, go_sem]) rfl ⟨_, rfl, HF.out, ht⟩
end FgR
end Go.Proofs.Ytkjlbginggppaaa


/- A part's bytes are packed: the program's (FgW). -/
namespace Go.Proofs.Ytkjlbginggppaaa
open Go.RowKit
set_option linter.unusedVariables false
set_option linter.unusedSimpArgs false

namespace Bt
theorem drop_unpack : ∀ (i : Nat) (b : List Nat), (unpack b).drop (8 * i) = unpack (b.drop i)
  | 0, b => rfl
  | i + 1, [] => by show ([] : List Bool).drop _ = _; simp; rfl
  | i + 1, x :: b => by
    show (bits x 8 ++ unpack b).drop _ = _
    rw [List.drop_append, bits_length, List.drop_of_length_le (by rw [bits_length]; omega), List.nil_append, show 8 * (i + 1) - 8 = 8 * i by omega, drop_unpack i b]
    rfl
theorem pack_unpack (b : List Nat) (h : ∀ x ∈ b, x < 256) : pack (unpack b) = b := by
  have hl : (unpack b).length = 8 * b.length := unpack_length b
  refine List.ext_getElem (by rw [pack_length, hl]; omega) fun i h1 h2 => ?_
  have e0 : (pack (unpack b))[i] = byteAt (unpack b) i := by simp [pack]
  rw [e0]
  unfold byteAt
  rw [drop_unpack, List.drop_eq_getElem_cons h2]
  show val ((bits b[i] 8 ++ unpack _).take 8) = _
  rw [List.take_append_of_le_length (by rw [bits_length]; omega), List.take_of_length_le (by rw [bits_length]; omega), Fg.val_eight _ (h _ (List.getElem_mem h2))]
end Bt
namespace Fg
theorem head_unpack {id n i : Nat} (h1 : id < 65536) (h0 : 1 ≤ n) (h2 : n ≤ 16) (h3 : i < 16) : [] ++ BtW.puts ((id : Int)).toNat 16 ++ BtW.puts ((n : Int) - 1).toNat 4 ++ BtW.puts ((i : Int)).toNat 4 = Bt.unpack [id % 256, id / 256, n - 1 + 16 * i] := by
  have e1 := puts_nat id 16 (by omega)
  have e2 := puts_nat (n - 1) 4 (by omega)
  have e3 := puts_nat i 4 (by omega)
  simp only [Int.cast_ofNat_Int] at e1 e2 e3
  rw [show ((n : Int) - 1).toNat = n - 1 by omega, Int.toNat_natCast, Int.toNat_natCast, e1, e2, e3, List.nil_append]
  have q1 : Bt.bits id 16 = Bt.bits (id % 256) 8 ++ Bt.bits (id / 256) 8 := by
    have := bits_two (id % 256) (id / 256) 8 8 (by omega)
    rw [this]; congr 1; omega
  have q2 : Bt.bits (n - 1) 4 ++ Bt.bits i 4 = Bt.bits (n - 1 + 16 * i) 8 := bits_two (n - 1) i 4 4 (by omega)
  rw [List.append_assoc, q2, q1, List.append_assoc]
  rfl
theorem unpack_next {h b : List Nat} {k y : Nat} (hy : b[k]? = some y) : Bt.unpack (h ++ b.take (k + 1)) = Bt.unpack (h ++ b.take k) ++ BtW.puts ((y : Int)).toNat 8 := by
  have e3 := puts_nat y 8 (by omega)
  simp only [Int.cast_ofNat_Int] at e3
  rw [Int.toNat_natCast, e3, List.take_add_one, hy, ← List.append_assoc, Bt.unpack_append]
  rfl
end Fg

namespace FgW
set_option maxRecDepth 20000 in
set_option maxHeartbeats 8000000 in
theorem pack_any (id n i : Nat) (b : List Nat) (v : Value) (w : World) (h1 : id < 65536) (h0 : 1 ≤ n) (h2 : n ≤ 16) (h3 : i < 16) (hb : BytesAt v b w) (h8 : ∀ x ∈ b, x < 256) (hl : b.length ≤ 300) :
    Calls Try.prog 20 #[.agg #[.int .u16 (id : Int), .int .i64 (n : Int), .int .i64 (i : Int), v]] w fun e w' => ∃ v', e = .returned v' ∧ OwnL 5 1 byEnc v' (Fg.bytes ⟨id, n, i, b⟩) w' ∧ Turned [] w w' ∧ ∀ k ∈ blk v', w.heap.size ≤ k := by
  obtain ⟨oa, cap, rfl, hc, hr, hlt⟩ := hb
  obtain ⟨m, hm⟩ : ∃ m, m = b.length := ⟨_, rfl⟩
  have HM : Hid (m = b.length) := hm
  have HB8 : Hid (∀ x ∈ b, x < 256) := h8
  have hm2 : (m : Int) ≤ 300 := by omega
  have HH : Hid (_ = _) := Fg.head_unpack h1 h0 h2 h3
  have g1 : (id : Int) < 65536 := by omega
  have HG : Hid (id < 65536) := h1
  have g2 : (1 : Int) ≤ (n : Int) := by omega
  have g3 : (n : Int) ≤ 16 := by omega
  have g4 : (i : Int) < 16 := by omega
  rw [← hm]
  clear hm hl h8 h1 h0 h2 h3
  go_enter Try.func20, Try.ntmps20
  go_wp2_with fail
  obtain ⟨W0, hW0⟩ : ∃ W, W = (w.alloc (.cells #[.int .u16 (id : Int), .int .i64 (n : Int), .int .i64 (i : Int), .slice oa m cap] 66)).alloc (.cells #[.slice none 0 0, .int .i64 0] 89) := ⟨_, rfl⟩
  obtain ⟨B, hB⟩ : ∃ B, B = w.heap.size := ⟨_, rfl⟩
  rw [← hW0, ← hB]
  have hS : Struct B [.int .u16 (id : Int), .int .i64 (n : Int), .int .i64 (i : Int), .slice oa m cap] W0 := by
    rw [hW0, hB]; exact (Struct.new w [.int .u16 (id : Int), .int .i64 (n : Int), .int .i64 (i : Int), .slice oa m cap] _).keep ((Turned.refl [] _).alloc _) (by simp)
  have hp : PW (B + 1) [] [B + 1] W0 ∧ ([] : List Bool).length ≤ 1000 := ⟨by
    rw [hW0, hB]
    have := PW.new (w.alloc (.cells #[.int .u16 (id : Int), .int .i64 (n : Int), .int .i64 (i : Int), .slice oa m cap] 66)) 89
    rw [World.size_alloc] at this
    exact this, by simp⟩
  have hT : Turned [] w W0 := by rw [hW0]; exact ((Turned.refl [] w).alloc _).alloc _
  have hmv : Moved [B + 1] [B + 1] W0 W0 := Moved.refl _ _
  have HBW : Hid (B = w.heap.size) := hB
  clear hW0 hB
  have hSat : ∀ u F, Moved [B + 1] F W0 u → Struct B [.int .u16 (id : Int), .int .i64 (n : Int), .int .i64 (i : Int), .slice oa m cap] u := fun u F hm => hS.keep hm.1 (by simp)
  obtain ⟨s0, _⟩ := hS.2 0 _ rfl
  obtain ⟨s1, _⟩ := hS.2 1 _ rfl
  obtain ⟨s2, _⟩ := hS.2 2 _ rfl
  obtain ⟨s3, _⟩ := hS.2 3 _ rfl
  (go_at_call 34; (with_reducible refine (BtW.put_b (by omega) (by omega) hp (by omega)).mono ?_); rintro e u1 ⟨rfl, F1, hp, hm1⟩)
  have hmv := hmv.trans hm1
  have hs := hSat _ _ hmv
  have s0 := (hs.2 0 _ rfl).1
  have s1 := (hs.2 1 _ rfl).1
  have s2 := (hs.2 2 _ rfl).1
  have s3 := (hs.2 3 _ rfl).1
  clear hm1 hs g1
  go_wp2_with (go_at_call 34; (with_reducible refine (BtW.put_b (by omega) (by omega) hp (by omega)).mono ?_); rintro e u1 ⟨rfl, F1, hp, hm1⟩; have hmv := hmv.trans hm1; have hs := hSat _ _ hmv; have s0 := (hs.2 0 _ rfl).1; have s1 := (hs.2 1 _ rfl).1; have s2 := (hs.2 2 _ rfl).1; have s3 := (hs.2 3 _ rfl).1; clear hm1 hs)
  rw [HH.out] at hp
  go_loopw [24] (fun o wr => ∃ (k : Nat) (F : List Nat), k ≤ m ∧ o = .int .i64 (k : Int) ∧ PW (B + 1) (Bt.unpack ([id % 256, id / 256, n - 1 + 16 * i] ++ b.take k)) F wr ∧ Moved [B + 1] F W0 wr) (fun o _ => m - (intOf o).toNat)
  case atStart => exact ⟨0, _, by omega, rfl, by simpa using hp.1, hmv⟩
  case round =>
    obtain ⟨k, F, hk, rfl, hpk, hm⟩ := hrel
    have hs := hSat _ _ hm
    have s3 := (hs.2 3 _ rfl).1
    by_cases hlt : (k : Int) < (m : Int)
    · obtain ⟨y, hy⟩ : ∃ y, b[k]? = some y := ⟨_, List.getElem?_eq_getElem (by have := HM.out; omega)⟩
      have HX : Hid (_ = _) := Fg.unpack_next (h := [id % 256, id / 256, n - 1 + 16 * i]) hy
      have hrk := hr.turned (hT.trans hm.1 (S := []) (by have := HBW.out; intro x hx; simp at hx; omega)) (by simp)
      obtain ⟨g, off, rfl, hg, hcy⟩ := hrk _ _ hy
      have e0 := hcy 0 _ rfl
      rw [Nat.mul_one, Nat.add_zero] at e0
      have y8 : (y : Int) < 256 := by have := HB8.out y (List.mem_of_getElem? hy); omega
      obtain ⟨X, hX⟩ : ∃ X, X = Bt.unpack ([id % 256, id / 256, n - 1 + 16 * i] ++ b.take k) := ⟨_, rfl⟩
      have hXl : X.length ≤ 3000 := by rw [hX, Bt.unpack_length]; simp; omega
      rw [← hX] at hpk HX
      have hpp : PW (B + 1) X F wr ∧ X.length ≤ 3000 := ⟨hpk, hXl⟩
      clear hX hXl hpk hrk hg hcy hy
      go_wp2_with fail
      (go_at_call 34; (with_reducible refine (BtW.put_b (by omega) (by omega) hpp (by omega)).mono ?_); rintro e u1 ⟨rfl, F1, hp1, hm1⟩)
      clear y8
      go_wp2_with fail
      go_roundw
      case rel => exact ⟨k + 1, F1, by omega, by go_num, by rw [HX.out]; exact hp1.1, hm.trans hm1⟩
      case measure => simp [intOf]; omega
    · have hkm : k = m := by omega
      have hpf : PW (B + 1) (Bt.unpack (Fg.bytes ⟨id, n, i, b⟩)) F wr := by
        rw [hkm, HM.out, List.take_length] at hpk
        exact hpk
      have hln : (Bt.unpack (Fg.bytes ⟨id, n, i, b⟩)).length ≤ 3000 := by
        rw [Bt.unpack_length]; unfold Fg.bytes Fg.head; have := HM.out; simp; omega
      have HT : Hid (Turned [] w wr) := hT.trans hm.1 (by have := HBW.out; intro x hx; simp at hx; omega)
      have HE : Hid (Bt.pack (Bt.unpack (Fg.bytes ⟨id, n, i, b⟩)) = Fg.bytes ⟨id, n, i, b⟩) := Bt.pack_unpack _ (by
        intro x hx
        unfold Fg.bytes Fg.head at hx
        simp at hx
        rcases hx with h | h | h | h
        · omega
        · have := HG.out; omega
        · omega
        · exact HB8.out x h)
      clear hpk hkm hm hs
      go_wp2_with (go_at_call 35; (with_reducible refine (BtW.bytes_any _ _ _ _ hpf (by omega)).mono ?_); rintro e u2 ⟨v', rfl, ho, ht, hb⟩)
      rw [HE.out] at ho
      refine bodyPost_ret (by simp [results, Try.results20, go_sem]) rfl ⟨_, rfl, ho, HT.out.trans ht (by simp), fun x hx => Nat.le_trans HT.out.size (hb x hx)⟩
end FgW
end Go.Proofs.Ytkjlbginggppaaa


/- Small numbers taken seven bits at a time, as the program takes them: the same as what the document says. -/
namespace Go.Proofs.Ytkjlbginggppaaa.Bt
set_option linter.unusedVariables false

/-- k times eight bits at most, of which j were taken and told n -/
def sev : Nat → Nat → Nat → List Bool → Option (Nat × Nat)
  | 0, _, _, _ => none
  | k + 1, j, n, l =>
    if l.length < 8 then none
    else if 18446744073709551616 ≤ 2 ^ (7 * j) * val ((l.drop 1).take 7) then none
    else if l.headD false then sev k (j + 1) (n + 2 ^ (7 * j) * val ((l.drop 1).take 7)) (l.drop 8)
    else if val ((l.drop 1).take 7) ≠ 0 ∨ j = 0 then some (n + 2 ^ (7 * j) * val ((l.drop 1).take 7), j + 1)
    else none
theorem sev_short {k j n : Nat} {l : List Bool} (h : l.length < 8) : sev k j n l = none := by
  cases k with
  | zero => rfl
  | succ k => unfold sev; rw [if_pos h]
theorem pow7 (j : Nat) : 2 ^ (7 * j) = 128 ^ j := by rw [Nat.pow_mul]
theorem top {j n x : Nat} (hj : j ≤ 9) (hn : n < 2 ^ (7 * j)) : (18446744073709551616 ≤ 2 ^ (7 * j) * x) ↔ ¬ (n + 2 ^ (7 * j) * x < 18446744073709551616) := by
  have e : (18446744073709551616 : Nat) = 2 ^ (7 * j) * 2 ^ (64 - 7 * j) := by
    rw [← Nat.pow_add, show 7 * j + (64 - 7 * j) = 64 by omega]
  have hp : 0 < 2 ^ (7 * j) := Nat.pow_pos (by omega)
  rw [e]
  generalize 2 ^ (64 - 7 * j) = m at *
  generalize 2 ^ (7 * j) = c at *
  constructor
  · intro h; omega
  · intro h
    by_cases hx : m ≤ x
    · exact Nat.mul_le_mul_left c hx
    · have h1 : x + 1 ≤ m := by omega
      have h2 := Nat.mul_le_mul_left c h1
      rw [Nat.mul_add, Nat.mul_one] at h2
      omega
/-- what is told out of n that were told and what grp tells -/
def lay (j n : Nat) : Option (Nat × Nat) → Option (Nat × Nat)
  | none => none
  | some (u, c) => if n + 2 ^ (7 * j) * u < 18446744073709551616 ∧ eights (n + 2 ^ (7 * j) * u) = c + j then some (n + 2 ^ (7 * j) * u, c + j) else none
theorem lay_some (j n u c : Nat) : lay j n (some (u, c)) = if n + 2 ^ (7 * j) * u < 18446744073709551616 ∧ eights (n + 2 ^ (7 * j) * u) = c + j then some (n + 2 ^ (7 * j) * u, c + j) else none := rfl
theorem sev_lay : ∀ {k j n : Nat} {l : List Bool}, k + j ≤ 10 → n < 2 ^ (7 * j) → sev k j n l = lay j n (grp k l)
  | 0, j, n, l, _, _ => rfl
  | k + 1, j, n, [], _, _ => rfl
  | k + 1, j, n, m :: r, hk, hn => by
    have hs : sev (k + 1) j n (m :: r) = if (m :: r).length < 8 then none else if 18446744073709551616 ≤ 2 ^ (7 * j) * val (r.take 7) then none else if m then sev k (j + 1) (n + 2 ^ (7 * j) * val (r.take 7)) (r.drop 7) else if val (r.take 7) ≠ 0 ∨ j = 0 then some (n + 2 ^ (7 * j) * val (r.take 7), j + 1) else none := rfl
    rw [hs]
    by_cases h7 : r.length < 7
    · rw [if_pos (by rw [List.length_cons]; omega)]
      have : grp (k + 1) (m :: r) = none := by unfold grp; simp only []; rw [if_pos h7]
      rw [this]; rfl
    · rw [if_neg (by rw [List.length_cons]; omega)]
      have hv := val_lt (r.take 7)
      rw [List.length_take, Nat.min_eq_left (by omega)] at hv
      have hv' : val (r.take 7) < 128 := hv
      have ht := top (x := val (r.take 7)) (show j ≤ 9 by omega) hn
      have hp : 2 ^ (7 * (j + 1)) = 2 ^ (7 * j) * 128 := by rw [show 7 * (j + 1) = 7 * j + 7 by omega, Nat.pow_add]
      have hn' : n + 2 ^ (7 * j) * val (r.take 7) < 2 ^ (7 * (j + 1)) := by
        rw [hp]
        have h1 : val (r.take 7) + 1 ≤ 128 := by omega
        have h2 := Nat.mul_le_mul_left (2 ^ (7 * j)) h1
        rw [Nat.mul_add, Nat.mul_one] at h2
        omega
      cases m with
      | true =>
        rw [grp_true k h7]
        by_cases hb : 18446744073709551616 ≤ 2 ^ (7 * j) * val (r.take 7)
        · rw [if_pos hb]
          cases hg : grp k (r.drop 7) with
          | none => rfl
          | some q =>
            obtain ⟨u, c⟩ := q
            show none = lay j n (some (val (r.take 7) + 128 * u, c + 1))
            rw [lay_some, if_neg]
            rintro ⟨h1, _⟩
            have : 2 ^ (7 * j) * val (r.take 7) ≤ 2 ^ (7 * j) * (val (r.take 7) + 128 * u) := Nat.mul_le_mul_left _ (by omega)
            omega
        · rw [if_neg hb, if_pos rfl, sev_lay (k := k) (j := j + 1) (by omega) hn']
          cases hg : grp k (r.drop 7) with
          | none => rfl
          | some q =>
            obtain ⟨u, c⟩ := q
            show lay (j + 1) (n + 2 ^ (7 * j) * val (r.take 7)) (some (u, c)) = lay j n (some (val (r.take 7) + 128 * u, c + 1))
            rw [lay_some, lay_some]
            have e : n + 2 ^ (7 * j) * val (r.take 7) + 2 ^ (7 * (j + 1)) * u = n + 2 ^ (7 * j) * (val (r.take 7) + 128 * u) := by
              rw [hp, Nat.mul_add, Nat.mul_assoc]; omega
            rw [e, show c + (j + 1) = c + 1 + j by omega]
      | false =>
        rw [grp_false k h7]
        show _ = lay j n (some (val (r.take 7), 1))
        rw [lay_some]
        by_cases hb : 18446744073709551616 ≤ 2 ^ (7 * j) * val (r.take 7)
        · rw [if_pos hb, if_neg]
          rintro ⟨h1, _⟩
          exact (ht.1 hb) h1
        · rw [if_neg hb]
          have hlt : n + 2 ^ (7 * j) * val (r.take 7) < 18446744073709551616 := by
            by_cases h : n + 2 ^ (7 * j) * val (r.take 7) < 18446744073709551616
            · exact h
            · exact absurd (ht.2 h) hb
          have hle : eights (n + 2 ^ (7 * j) * val (r.take 7)) ≤ j + 1 := (eights_le (by omega)).2 (by rw [← pow7]; exact hn')
          have hiff : eights (n + 2 ^ (7 * j) * val (r.take 7)) = 1 + j ↔ (val (r.take 7) ≠ 0 ∨ j = 0) := by
            by_cases hj : j = 0
            · subst hj
              have := eights_pos (n + 2 ^ (7 * 0) * val (r.take 7))
              constructor
              · intro _; exact .inr rfl
              · intro _; omega
            · have h2 := eights_le (n := j) (u := n + 2 ^ (7 * j) * val (r.take 7)) (by omega)
              rw [← pow7] at h2
              constructor
              · intro he
                left
                intro h0
                rw [h0, Nat.mul_zero, Nat.add_zero] at h2 he
                have := h2.2 hn
                omega
              · rintro (h0 | h0)
                · have : ¬ (eights (n + 2 ^ (7 * j) * val (r.take 7)) ≤ j) := by
                    rw [h2]
                    have h3 : 2 ^ (7 * j) * 1 ≤ 2 ^ (7 * j) * val (r.take 7) := Nat.mul_le_mul_left _ (by omega)
                    omega
                  omega
                · exact absurd h0 hj
          simp only [Bool.false_eq_true, if_false]
          by_cases hc : val (r.take 7) ≠ 0 ∨ j = 0
          · rw [if_pos hc, if_pos ⟨hlt, hiff.2 hc⟩, Nat.add_comm 1 j]
          · rw [if_neg hc, if_neg]
            rintro ⟨_, h⟩
            exact hc (hiff.1 h)
theorem small_sev (l : List Bool) : small l = (sev 10 0 0 l).map fun q => (zag q.1, 8 * q.2) := by
  rw [sev_lay (by omega) (by decide)]
  unfold small lay
  cases grp 10 l with
  | none => rfl
  | some q =>
    obtain ⟨u, c⟩ := q
    simp only [Nat.mul_zero, Nat.pow_zero, Nat.one_mul, Nat.zero_add, Nat.add_zero]
    by_cases h : u < 18446744073709551616 ∧ eights u = c
    · rw [if_pos h, if_pos h]; rfl
    · rw [if_neg h, if_neg h]; rfl
theorem sev_lt {l : List Bool} {u c : Nat} (h : sev 10 0 0 l = some (u, c)) : u < 18446744073709551616 := by
  rw [sev_lay (by omega) (by decide)] at h
  unfold lay at h
  cases hg : grp 10 l with
  | none => rw [hg] at h; cases h
  | some q =>
    obtain ⟨u', c'⟩ := q
    rw [hg] at h
    simp only [Nat.mul_zero, Nat.pow_zero, Nat.one_mul, Nat.zero_add, Nat.add_zero] at h
    by_cases hc : u' < 18446744073709551616 ∧ eights u' = c'
    · rw [if_pos hc] at h
      simp at h
      rw [← h.1]
      exact hc.1
    · rw [if_neg hc] at h; cases h
end Go.Proofs.Ytkjlbginggppaaa.Bt


/- What the program's reader of bits answers, as a call: small numbers, the end, a new one (BtD). -/
namespace Go.Proofs.Ytkjlbginggppaaa
open Go.RowKit
set_option linter.unusedVariables false

namespace BtD
open BtW (int_ret)

theorem can_of {r : Bt.Rd} {n : Nat} (hf : r.fail = false) (h64 : n ≤ 64) (hn : n ≤ r.left) : r.can (n : Int) = true := by
  rw [Bt.Rd.can_iff]; exact ⟨hf, by omega, by omega, by omega⟩
theorem take_of {r : Bt.Rd} {n : Nat} (hf : r.fail = false) (h64 : n ≤ 64) (hn : n ≤ r.left) : r.take (n : Int) = ⟨r.l, r.at_ + n, false⟩ ∧ r.tell (n : Int) = Bt.val (r.rest.take n) := by
  have hc := can_of hf h64 hn
  unfold Bt.Rd.take Bt.Rd.tell
  rw [if_pos hc, if_pos hc, Int.toNat_natCast]
  exact ⟨rfl, rfl⟩
/-- eight bits are there -/
theorem eight {r : Bt.Rd} (hf : r.fail = false) (h8 : 8 ≤ r.left) :
    r.tell 1 = (r.rest.headD false).toNat ∧ (r.take 1).tell 7 = Bt.val ((r.rest.drop 1).take 7) ∧ (r.take 1).take 7 = ⟨r.l, r.at_ + 8, false⟩ := by
  obtain ⟨t1, t2⟩ := take_of (n := 1) hf (by omega) (by omega)
  have h7 : 7 ≤ (r.take (1 : Nat)).left := by rw [t1]; unfold Bt.Rd.left at *; show 7 ≤ r.l.length - (r.at_ + 1); omega
  obtain ⟨t3, t4⟩ := take_of (r := r.take (1 : Nat)) (n := 7) (by rw [t1]) (by omega) h7
  refine ⟨?_, ?_, ?_⟩
  · refine t2.trans ?_
    have hl := r.rest_length
    cases hr : r.rest with
    | nil => rw [hr] at hl; simp at hl; omega
    | cons b l => simp [Bt.val]
  · refine t4.trans ?_
    rw [t1]
    unfold Bt.Rd.rest
    rw [List.drop_drop]
  · refine t3.trans ?_
    rw [t1]
/-- they are not -/
theorem lacks {r : Bt.Rd} (hf : r.fail = false) (h8 : r.left < 8) : ((r.take 1).take 7).fail = true := by
  by_cases h1 : 1 ≤ r.left
  · obtain ⟨t1, t2⟩ := take_of (n := 1) hf (by omega) h1
    have h7 : ¬ (r.take 1).can 7 = true := by
      rw [Bt.Rd.can_iff, show r.take 1 = _ from t1]
      unfold Bt.Rd.left at *
      rintro ⟨_, _, _, h⟩
      have : r.l.length - (r.at_ + 1) < 7 := by omega
      have h' : (7 : Int) ≤ ((r.l.length - (r.at_ + 1) : Nat) : Int) := h
      omega
    rw [show ∀ q : Bt.Rd, q.take 7 = if q.can 7 then ⟨q.l, q.at_ + (7 : Int).toNat, false⟩ else ⟨q.l, q.at_, true⟩ from fun _ => rfl, if_neg h7]
  · have hc : ¬ r.can 1 = true := by rw [Bt.Rd.can_iff]; omega
    have e : r.take 1 = ⟨r.l, r.at_, true⟩ := by unfold Bt.Rd.take; rw [if_neg hc]
    have h7 : ¬ (r.take 1).can 7 = true := by rw [Bt.Rd.can_iff, e]; simp
    rw [show ∀ q : Bt.Rd, q.take 7 = if q.can 7 then ⟨q.l, q.at_ + (7 : Int).toNat, false⟩ else ⟨q.l, q.at_, true⟩ from fun _ => rfl, if_neg h7]
theorem rest_on {r : Bt.Rd} {l : List Bool} {a j : Nat} (h : r = ⟨l, a + 8 * j, false⟩) : r.rest = (l.drop a).drop (8 * j) ∧ r.rest.drop 8 = (l.drop a).drop (8 * (j + 1)) := by
  subst h
  unfold Bt.Rd.rest
  rw [List.drop_drop, List.drop_drop, List.drop_drop]
  exact ⟨rfl, by congr 1⟩

theorem shl_over {j x : Nat} (h : 18446744073709551616 ≤ 2 ^ (7 * j) * x) : (IntKind.u64.wrap ((x : Int) * 2 ^ (7 * j)) / 2 ^ (7 * j) != (x : Int)) = true := by
  have hp : ((2 ^ (7 * j) : Nat) : Int) = (2 : Int) ^ (7 * j) := by simp
  have h0 : 0 < 2 ^ (7 * j) := Nat.pow_pos (by omega)
  have hw : ∀ y : Int, IntKind.u64.wrap y = y % 18446744073709551616 := fun y => by simp [IntKind.wrap, IntKind.bits, IntKind.signed]
  rw [hw, ← hp]
  have h' : (18446744073709551616 : Int) ≤ (x : Int) * ((2 ^ (7 * j) : Nat) : Int) := by
    have : (18446744073709551616 : Nat) ≤ x * 2 ^ (7 * j) := by rw [Nat.mul_comm]; exact h
    have h2 : ((18446744073709551616 : Nat) : Int) ≤ ((x * 2 ^ (7 * j) : Nat) : Int) := Int.ofNat_le.2 this
    rw [Int.natCast_mul] at h2
    omega
  generalize 2 ^ (7 * j) = c at *
  have hlt : (x : Int) * (c : Int) % 18446744073709551616 / (c : Int) < (x : Int) := by
    apply Int.ediv_lt_of_lt_mul (by omega)
    generalize (x : Int) * (c : Int) = m at *
    omega
  exact bne_iff_ne.2 (Int.ne_of_lt hlt)
theorem shl_in {j x : Nat} (h : ¬ 18446744073709551616 ≤ 2 ^ (7 * j) * x) : IntKind.u64.wrap ((x : Int) * 2 ^ (7 * j)) = ((2 ^ (7 * j) * x : Nat) : Int) ∧ ((2 ^ (7 * j) * x : Nat) : Int) / 2 ^ (7 * j) = (x : Int) := by
  have hp : ((2 ^ (7 * j) : Nat) : Int) = (2 : Int) ^ (7 * j) := by simp
  have h0 : 0 < 2 ^ (7 * j) := Nat.pow_pos (by omega)
  have hw : ∀ y : Int, IntKind.u64.wrap y = y % 18446744073709551616 := fun y => by simp [IntKind.wrap, IntKind.bits, IntKind.signed]
  rw [hw, ← hp]
  generalize 2 ^ (7 * j) = c at *
  have e : (x : Int) * (c : Int) = ((c * x : Nat) : Int) := by rw [Nat.mul_comm]; simp
  rw [e]
  constructor
  · omega
  · have : ((c * x : Nat) : Int) / (c : Int) = ((c * x / c : Nat) : Int) := by simp
    rw [this, Nat.mul_div_cancel_left x h0]
theorem or_high {j x n : Nat} (hn : n < 2 ^ (7 * j)) (h : ¬ 18446744073709551616 ≤ 2 ^ (7 * j) * x) (hn64 : n < 18446744073709551616) : bits .or .u64 (n : Int) ((2 ^ (7 * j) * x : Nat) : Int) = ((n + 2 ^ (7 * j) * x : Nat) : Int) := by
  rw [u64_or_nat n _ hn64 (by omega), Nat.or_comm, ← Nat.two_pow_add_eq_or_of_lt hn, Nat.add_comm]

/-- what sevens answers -/
def Sev (q : Nat) (v : Value) (bs : List Nat) (r : Bt.Rd) (e : Ending) (w' : World) : Prop :=
  (e = .returned (.tuple #[.int .u64 0, .bool false]) ∧ Bt.sev 10 0 0 r.rest = none) ∨
  (∃ u c : Nat, e = .returned (.tuple #[.int .u64 (u : Int), .bool true]) ∧ Bt.sev 10 0 0 r.rest = some (u, c) ∧ PRd q v bs ⟨r.l, r.at_ + 8 * c, false⟩ w') ∨
  (∃ u : Int, e = .returned (.tuple #[.int .u64 u, .bool false]) ∧ Bt.sev 10 0 0 r.rest = none)

/-- all three cells are written -/
theorem rewrote {p : Nat} {v : Value} {bs : List Nat} {r r' : Bt.Rd} {w w2 : World} (h : PRd p v bs r w2) (ht : Turned [] w w2) (hl : r'.l = r.l) (hw : r'.wf) :
    PRd p v bs r' (((w2.setCell ⟨p, 0, none⟩ v).setCell ⟨p, 1, none⟩ (.int .i64 (r'.at_ : Int))).setCell ⟨p, 2, none⟩ (.bool r'.fail)) ∧ Turned [p] w (((w2.setCell ⟨p, 0, none⟩ v).setCell ⟨p, 1, none⟩ (.int .i64 (r'.at_ : Int))).setCell ⟨p, 2, none⟩ (.bool r'.fail)) := by
  have hT : Turned [p] w2 (((w2.setCell ⟨p, 0, none⟩ v).setCell ⟨p, 1, none⟩ (.int .i64 (r'.at_ : Int))).setCell ⟨p, 2, none⟩ (.bool r'.fail)) :=
    (((Turned.refl [p] w2).setCell (p := ⟨p, 0, none⟩) (.inl (by simp)) _).setCell (p := ⟨p, 1, none⟩) (.inl (by simp)) _).setCell (p := ⟨p, 2, none⟩) (.inl (by simp)) _
  exact ⟨Rd_at h hl hw (((h.1.set (i := 0) (by simp) v).set (i := 1) (by simp) (.int .i64 (r'.at_ : Int))).set (i := 2) (by simp) (.bool r'.fail)) hT, (ht.mono (S' := [p]) (by simp)).trans hT (fun k hk _ => hk)⟩
/-- the small numbers of a reader that has not failed -/
theorem st_none {r : Bt.Rd} (hf : r.fail = false) (h : Bt.sev 10 0 0 r.rest = none) : r.sTell = 0 ∧ r.sTake = ⟨r.l, r.at_, true⟩ := by
  have e : Bt.small r.rest = none := by rw [Bt.small_sev, h]; rfl
  unfold Bt.Rd.sTell Bt.Rd.sTake
  rw [hf, e]
  exact ⟨rfl, rfl⟩
theorem st_some {r : Bt.Rd} {u c : Nat} (hf : r.fail = false) (h : Bt.sev 10 0 0 r.rest = some (u, c)) : r.sTell = Bt.zag u ∧ r.sTake = ⟨r.l, r.at_ + 8 * c, false⟩ := by
  have e : Bt.small r.rest = some (Bt.zag u, 8 * c) := by rw [Bt.small_sev, h]; rfl
  unfold Bt.Rd.sTell Bt.Rd.sTake
  rw [hf, e]
  exact ⟨rfl, rfl⟩

theorem all_zero {l : List Bool} : (Bt.val l == 0) = l.all (fun b => !b) := by
  rw [Bool.eq_iff_iff]
  constructor
  · intro h
    have h0 : Bt.val l = 0 := by simpa using h
    rw [Bt.val_eq_zero h0]
    simp
  · intro h
    have : l = List.replicate l.length false := by
      rw [List.eq_replicate_iff]
      refine ⟨rfl, fun b hb => ?_⟩
      have := List.all_eq_true.1 h b hb
      simpa using this
    rw [this, Bt.val_zeros]
    rfl

set_option maxHeartbeats 1000000 in
theorem new_any (oa : Option Addr) (n cap : Nat) (bs : List Nat) (w : World) (hn : bs.length = n) (hr : RowOf 1 byEnc oa bs w) (hl : n ≤ 4294967296) (hb : ∀ b ∈ bs, b < 256) :
    Calls Try.prog 36 #[.slice oa n cap] w fun e w' => ∃ p v, e = .returned (.pointer (some ⟨p, 0, none⟩)) ∧ PRd p v bs ⟨Bt.unpack bs, 0, false⟩ w' ∧ Turned [] w w' ∧ w.heap.size ≤ p ∧ ∀ k ∈ rblk v, w.heap.size ≤ k := by
  subst hn
  have kc := BtW.clone_any oa bs.length cap bs w rfl hr (by omega)
  go_enter Try.func36, Try.ntmps36
  go_wp2_with (go_at_call 49; with_reducible refine kc.mono ?_; rintro e w1 ⟨v', rfl, ho1, ht1, hb1⟩; obtain ⟨ob, cb, rfl, _, _, hr1, _⟩ := ho1.rowOf byEnc_len)
  go_ret
  have hlt := ho1.lt
  have hT : Turned [] w1 (w1.alloc (.cells #[.slice ob bs.length cb, .int .i64 0, .bool false] 106)) := (Turned.refl [] w1).alloc _
  refine ⟨w1.heap.size, .slice ob bs.length cb, rfl, ⟨Struct.new w1 [_, _, _] _, ⟨ob, cb, rfl, hr1.turned hT (by simp), ?_⟩, rfl, Nat.zero_le _, hb, by omega⟩, ht1.trans hT (fun k hk _ => hk), ht1.size, ?_⟩
  · intro a ha
    subst ha
    have := hlt a.block (by simp [blk, Value.ownBlock])
    exact ⟨Nat.ne_of_lt this, Nat.lt_of_lt_of_le this hT.size⟩
  · intro k hk
    cases ob with
    | none => simp [rblk] at hk
    | some a =>
      simp [rblk] at hk
      subst hk
      exact hb1 a.block (by simp [blk, Value.ownBlock])

end BtD
end Go.Proofs.Ytkjlbginggppaaa


/- A region that draws its order, under a condition on the world: the condition may be strengthened on the way (BtL). -/
namespace Go.Proofs.Ytkjlbginggppaaa
set_option linter.unusedVariables false

namespace BtL
theorem held_mono {P : Program} {md : Region.Mode} {ops : Array Oper} {Q : Exit → Act → World → Prop} {S S' : World → Prop} (h : ∀ w, S' w → S w) :
    ∀ {fuel : Nat} {listed : Array Bool} {a : Act} {w : World}, wpAnyH P md ops Q S' fuel listed a w → wpAnyH P md ops Q S fuel listed a w
  | 0, _, _, _, hh => hh
  | fuel + 1, _, _, _, hh => ⟨hh.1, fun i hi => wpOp_mono (fun a' w' h' => ⟨h w' h'.1, held_mono h h'.2⟩) (hh.2 i hi)⟩
/-- 'wpAnyH_take', the temporary named -/
theorem take_d {P : Program} {md : Region.Mode} {ops : Array Oper} {Q : Exit → Act → World → Prop} {S : World → Prop} {i : Nat} {oi : Oper} {v : Value} {fuel : Nat} {listed : Array Bool} {a : Act} {w : World} (d : Option Tmp) (hi : ops[i]? = some oi) (hd : oi.dst = d)
    (hs : Region.noSelect ops = true) (hf : Region.free md ops listed i = true) (hr : (Region.ready md ops listed).contains i = true)
    (hQ : ∀ c a w, Q (.panic c) (a.put d v) w → Q (.panic c) a w) (hy : YieldsIf P ops S oi v a) (hS : S w)
    (h : wpAnyH P md ops Q S fuel (listed.setIfInBounds i true) (a.put d v) w) : wpAnyH P md ops Q S (fuel + 1) listed a w := by
  subst hd
  exact wpAnyH_take hi hs hf hr hQ hy hS h
/-- the one that may come up is a call: it comes up -/
theorem one_d {P : Program} {md : Region.Mode} {ops : Array Oper} {Q : Exit → Act → World → Prop} {S : World → Prop} {i : Nat} {oi : Oper} {fuel : Nat} {listed : Array Bool} {a : Act} {w : World} (d : Option Tmp) (hi : ops[i]? = some oi) (hd : oi.dst = d) (hr : Region.ready md ops listed = [i]) (hw : Region.wanted oi (yielded ops a.tmps) = true)
    (f : FuncId) (args : Array Value) (he : (execOp a.eval oi).run P w = .ok (.enter f args) w) (h : Calls P f args w fun e w' => ∃ v, e = .returned v ∧ S w' ∧ (S w' → wpAnyH P md ops Q S fuel (listed.setIfInBounds i true) (a.put d v) w')) : wpAnyH P md ops Q S (fuel + 1) listed a w := by
  subst hd
  refine wpAnyH_all hr (by simp) ?_
  intro j hj
  simp at hj
  subst hj
  unfold wpOp
  simp only [hi, hw, if_true]
  refine .inl ?_
  unfold Oper.wp
  rw [he]
  refine h.mono ?_
  rintro e w' ⟨v, rfl, h1, h2⟩
  exact ⟨h1, h2 h1⟩
end BtL
end Go.Proofs.Ytkjlbginggppaaa
