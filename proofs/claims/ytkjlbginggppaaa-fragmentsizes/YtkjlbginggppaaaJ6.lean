/- Joined: FgDrop, FgRFeed, FgFOpen, FgFMem, FgFParts, FgFWalk. -/
import Derived.Test.YtkjlbginggppaaaJ5
import Derived.Deep.Cut
import Derived.Lib.SmallJoins
import Derived.ChangeMaps5
/- The reference lets a message's parts go (FgR). -/
namespace Go.Proofs.Ytkjlbginggppaaa
open Go.RowKit
set_option linter.unusedVariables false
set_option linter.unusedSimpArgs false

theorem filter_next {α : Type} {l : List α} {k : Nat} {a : α} {P : α → Bool} (h : l[k]? = some a) : (l.take (k + 1)).filter P = (l.take k).filter P ++ (if P a = true then [a] else []) := by
  rw [List.take_add_one, h, List.filter_append]
  show _ ++ [a].filter P = _
  rw [List.filter_cons]; rfl
theorem part_cells (q : Fg.P × Value) (w : World) (t : TypeId) : ∀ j u, ([q].flatMap ptEnc)[j]? = some u → (w.alloc (.cells #[.int .u16 (q.1.id : Int), .int .i64 (q.1.n : Int), .int .i64 (q.1.at_ : Int), q.2] t)).cell? ⟨w.heap.size, 0 + j, none⟩ = some u := by
  intro j u hj
  rw [show [q].flatMap ptEnc = [.int .u16 (q.1.id : Int), .int .i64 (q.1.n : Int), .int .i64 (q.1.at_ : Int), q.2] by simp [ptEnc]] at hj
  match j, hj with
  | 0, hj => simp at hj; subst hj; simp [go_sem]
  | 1, hj => simp at hj; subst hj; simp [go_sem]
  | 2, hj => simp at hj; subst hj; simp [go_sem]
  | 3, hj => simp at hj; subst hj; simp [go_sem]
theorem part_one {q : Fg.P × Value} (h : q.2.oneCell' = true) : ∀ a ∈ [q], ∀ u ∈ ptEnc a, u.oneCell' = true := by
  intro a ha u hu
  rw [List.mem_singleton.1 ha] at hu
  simp [ptEnc] at hu
  rcases hu with rfl | rfl | rfl | rfl
  · rfl
  · rfl
  · rfl
  · exact h

namespace FgR
set_option maxRecDepth 20000 in
set_option maxHeartbeats 4000000 in
theorem drop_any (R : Nat) (L : List (Fg.P × Value)) (vL : Value) (p : Fg.P × Value) (w : World) (h : RAsm R L vL w) (hl : L.length ≤ 100000) :
    Calls Try.prog 32 #[.pointer (some ⟨R, 0, none⟩), ptVal p] w fun e w' => e = .returned (.tuple #[]) ∧ ∃ vL', RAsm R (L.filter fun q => !Fg.mine q.1 p.1) vL' w' ∧ Moved (R :: blk vL) (R :: blk vL') w w' := by
  obtain ⟨oa, cap, rfl, _, _⟩ := OwnL.form h.ow
  have hl' : (L.length : Int) ≤ 100000 := by omega
  have hRw := h.st.1
  have hbw := fun q (hq : q ∈ L) => (h.by_ q hq).lt
  unfold ptVal
  go_enter Try.func32, Try.ntmps32
  go_wp2_with fail
  obtain ⟨W0, hW0⟩ : ∃ W, W = w.alloc (.cells #[.int .u16 (p.1.id : Int), .int .i64 (p.1.n : Int), .int .i64 (p.1.at_ : Int), p.2] 83) := ⟨_, rfl⟩
  obtain ⟨B, hB⟩ : ∃ B, B = w.heap.size := ⟨_, rfl⟩
  rw [← hW0, ← hB]
  have ht0 : Turned [] w W0 := by rw [hW0]; exact (Turned.refl [] w).alloc _
  have hS : Struct B [.int .u16 (p.1.id : Int), .int .i64 (p.1.n : Int), .int .i64 (p.1.at_ : Int), p.2] W0 := by rw [hW0, hB]; exact Struct.new w [.int .u16 (p.1.id : Int), .int .i64 (p.1.n : Int), .int .i64 (p.1.at_ : Int), p.2] _
  clear hW0 hB hl
  go_loopw [4, 5] (fun o i wr => ∃ k : Nat, k ≤ L.length ∧ i = .int .i64 (k : Int) ∧ OwnL 83 4 ptEnc o ((L.take k).filter fun q => !Fg.mine q.1 p.1) wr ∧ Turned [] W0 wr ∧ ∀ q ∈ blk o, W0.heap.size ≤ q) (fun _ i _ => L.length - (intOf i).toNat)
  case atStart => exact ⟨0, by omega, rfl, OwnL.nil _ _ _ _, Turned.refl _ _, by simp [blk, Value.ownBlock]⟩
  case round =>
    obtain ⟨k, hk, rfl, hout, ht, hnew⟩ := hrel
    have hr := h.keep (ht0.trans ht (by simp)) (by simp) (by simp)
    have hSr := hS.keep ht (by simp)
    have c0 := (hr.st.2 0 _ rfl).1
    by_cases hlt : (k : Int) < (L.length : Int)
    · obtain ⟨q, hq⟩ : ∃ q, L[k]? = some q := ⟨_, List.getElem?_eq_getElem (by omega)⟩
      have HX := filter_next (P := fun q => !Fg.mine q.1 p.1) hq
      obtain ⟨g, cap', hv, _, hg, hcq⟩ := hr.ow.cell ptEnc_len hq
      simp at hv
      obtain ⟨rfl, rfl⟩ := hv
      have q0 := (hcq 0 _ rfl).1
      have q1 := (hcq 1 _ rfl).1
      have q2 := (hcq 2 _ rfl).1
      have q3 := (hcq 3 _ rfl).1
      rw [Nat.add_zero] at q0
      have p0 := (hSr.2 0 _ rfl).1
      have p1 := (hSr.2 1 _ rfl).1
      have p2 := (hSr.2 2 _ rfl).1
      have p3 := (hSr.2 3 _ rfl).1
      have ne : Nonempty (KeptW wr) := KeptW.one wr
      have d0 := KeptW.at hr.st.1 c0
      have d1 := KeptW.at hg q0
      have d2 := KeptW.at hg q1
      have d3 := KeptW.at hg q2
      have d4 := KeptW.at hg q3
      have d5 := KeptW.at hSr.1 p0
      have d6 := KeptW.at hSr.1 p1
      have d7 := KeptW.at hSr.1 p2
      have d8 := KeptW.at hSr.1 p3
      have g1 := fun (u : KeptW wr) => kept_call ((mine_any q p u.u).mono fun e w' h => ⟨h.1, h.2.none⟩)
      unfold ptVal at g1
      have hq1 := (h.by_ q (List.mem_of_getElem? hq)).one
      have hle : ((L.take k).filter fun q => !Fg.mine q.1 p.1).length ≤ k := Nat.le_trans (List.length_filter_le _ _) (by rw [List.length_take]; omega)
      obtain ⟨X, hX⟩ : ∃ X, X = (L.take k).filter fun q => !Fg.mine q.1 p.1 := ⟨_, rfl⟩
      rw [← hX] at hout hle HX
      clear hX hcq p0 p1 p2 p3 hq
      have b1 : X.length + 1 ≤ maxLen := by unfold maxLen; omega
      have b2 : (X.length + 1) * 48 ≤ 140737488355328 := by omega
      obtain ⟨m, hm⟩ : ∃ m, m = Fg.mine q.1 p.1 := ⟨_, rfl⟩
      rw [← hm] at g1 HX
      clear hm
      cases m
      · rw [Bool.not_false, if_pos rfl] at HX
        have HN : Hid (_ = _) := HX
        clear HX
        go_wp2_with fail
        refine wp_region_kept (by kernel_rfl) (by kernel_rfl) ?_
        repeat (go_big_quiet_step (first | (go_at_call 31; with_reducible exact g1 _)))
        refine wpQuiet_nil ?_
        rintro _ ⟨v, rfl⟩
        have htv : Turned [] wr v.u := Turned.ofBelow v.h
        have houtv := hout.keep htv (by simp)
        have e0 := d0 v
        have e1 := d1 v
        have e2 := d2 v
        have e3 := d3 v
        have e4 := d4 v
        obtain ⟨V, hV⟩ : ∃ V, V = v.u := ⟨_, rfl⟩
        rw [← hV] at htv houtv e0 e1 e2 e3 e4 ⊢
        clear d0 d1 d2 d3 d4 d5 d6 d7 d8 g1 ne hV
        go_wp2_with (at_builtin; refine wp_push (v := u4) elem_pt rfl _ _ rfl rfl (houtv.keep ((Turned.refl [] V).alloc _) (by simp)) V.heap.size 0 1 1 [q] rfl rfl ptEnc_len (part_one hq1) (part_cells q V _) b1 b2 ?_; intro v' w1 ho1 ht1 hb1)
        go_roundw
        case rel => exact ⟨k + 1, by omega, by go_num, by rw [HN.out]; exact ho1, (ht.trans htv (by simp)).trans (((Turned.refl (blk u4) V).alloc _).trans ht1 (fun k hk _ => hk)) (fun k hk hl => by have := hnew k hk; omega), BtR.fresh hnew (ht.trans htv (by simp)) hb1⟩
        case measure => simp [intOf]; omega
      · rw [Bool.not_true, if_neg (by decide), List.append_nil] at HX
        have HN : Hid (_ = _) := HX
        clear HX
        go_wp2_with fail
        refine wp_region_kept (by kernel_rfl) (by kernel_rfl) ?_
        repeat (go_big_quiet_step (first | (go_at_call 31; with_reducible exact g1 _)))
        refine wpQuiet_nil ?_
        rintro _ ⟨v, rfl⟩
        have htv : Turned [] wr v.u := Turned.ofBelow v.h
        go_wp2_with fail
        go_roundw
        case rel => exact ⟨k + 1, by omega, by go_num, by rw [HN.out]; exact hout.keep htv (by simp), ht.trans htv (by simp), hnew⟩
        case measure => simp [intOf]; omega
    · have hkL : L.take k = L := List.take_of_length_le (by omega)
      rw [hkL] at hout
      obtain ⟨ob, cb, hvf, _, _⟩ := OwnL.form hout
      subst hvf
      have f0 := (hr.st.2 0 _ rfl).2
      have HO : Hid (OwnL _ _ _ _ _ wr) := hout
      have HH : Hid (RAsm R L _ wr) := hr
      have hW0s := ht0.size
      have HNw : Hid (∀ q ∈ blk (.slice ob (L.filter fun q => !Fg.mine q.1 p.1).length cb), w.heap.size ≤ q) := fun q hq => Nat.le_trans hW0s (hnew q hq)
      have HT : Hid (Turned [] w wr) := ht0.trans ht (by simp)
      obtain ⟨nn, hnn⟩ : ∃ n, n = (L.filter fun q => !Fg.mine q.1 p.1).length := ⟨_, rfl⟩
      rw [← hnn] at HO HNw ⊢
      clear hnn hout hkL hr hnew
      go_wp2_with fail
      go_end0
      have tR : Turned [R] wr (wr.setCell ⟨R, 0, none⟩ (.slice ob nn cb)) := (Turned.refl [R] wr).setCell (p := ⟨R, 0, none⟩) (.inl (by simp)) _
      have hnR : R ∉ blk (.slice ob nn cb) := fun hm => by have := HNw.out R hm; omega
      refine BtW.end0 ⟨.slice ob nn cb, ⟨HH.out.st.set (i := 0) (by simp) _, HO.out.keep tR (fun k hk hm => by simp at hm; subst hm; exact hnR hk), hnR, ?_, ?_⟩, ?_, ?_⟩
      · intro q hq
        have hqL := (List.mem_filter.1 hq).1
        exact (HH.out.by_ q hqL).keep tR (fun k hk hm => by simp at hm; subst hm; exact HH.out.ap q hqL k hk List.mem_cons_self)
      · intro q hq k hk hm
        have hqL := (List.mem_filter.1 hq).1
        rcases List.mem_cons.1 hm with e | e
        · subst e; exact HH.out.ap q hqL k hk List.mem_cons_self
        · have := HNw.out k e; have := hbw q hqL k hk; omega
      · exact (HT.out.mono (S' := R :: blk (.slice oa L.length cap)) (by simp)).trans tR (fun k hk _ => by simp at hk; subst hk; exact List.mem_cons_self)
      · intro k hk
        rcases List.mem_cons.1 hk with e | e
        · subst e; exact .inl List.mem_cons_self
        · exact .inr (HNw.out k e)
end FgR
end Go.Proofs.Ytkjlbginggppaaa


/- The reference's Feed (FgR.feed_any). -/
namespace Go.Proofs.Ytkjlbginggppaaa
open Go.RowKit
set_option linter.unusedVariables false
set_option linter.unusedSimpArgs false

theorem turned_drewN (w : World) (n : Nat) : Turned [] w (w.drewN n) := ⟨rfl, rfl, rfl, Nat.le_refl _, fun _ _ _ => rfl⟩
/-- 'a.L = append(a.L, p)' -/
theorem RAsm.push {R : Nat} {L : List (Fg.P × Value)} {vL v' : Value} {V Va w1 : World} {q : Fg.P × Value} (h : RAsm R L vL V) (hq : BytesAt q.2 q.1.b V) (hqb : ∀ k ∈ rblk q.2, k ∉ R :: blk vL)
    (ho1 : OwnL 83 4 ptEnc v' (L ++ [q]) w1) (hVa : Turned [] V Va) (ht1 : Turned (blk vL) Va w1) (hb1 : blk v' = blk vL ∨ blk v' = [Va.heap.size]) :
    w1.cell? ⟨R, 0, none⟩ = some vL ∧ w1.frozen? ⟨R, 0, none⟩ = false ∧ R < w1.heap.size ∧ ∀ W2, W2 = w1.setCell ⟨R, 0, none⟩ v' → RAsm R (L ++ [q]) v' W2 ∧ Moved (R :: blk vL) (R :: blk v') V W2 := by
  have t0 : Turned (blk vL) V w1 := (hVa.mono (S' := blk vL) (by simp)).trans ht1 fun k hk _ => hk
  have hVz := hVa.size
  have hs1 := h.st.keep t0 h.nr
  have hRV := h.st.1
  have hnew : ∀ k ∈ blk v', k ∈ blk vL ∨ V.heap.size ≤ k := fun k hk => by
    rcases hb1 with e | e
    · rw [e] at hk; exact .inl hk
    · rw [e] at hk; simp at hk; exact .inr (by omega)
  have hnR : R ∉ blk v' := fun hm => by
    rcases hnew R hm with e | e
    · exact h.nr e
    · omega
  refine ⟨(hs1.2 0 _ rfl).1, (hs1.2 0 _ rfl).2, hs1.1, ?_⟩
  rintro W2 rfl
  have t1 : Turned [R] w1 (w1.setCell ⟨R, 0, none⟩ v') := (Turned.refl [R] w1).setCell (p := ⟨R, 0, none⟩) (.inl (by simp)) _
  have t2 : Turned (R :: blk vL) V (w1.setCell ⟨R, 0, none⟩ v') := (t0.mono (S' := R :: blk vL) fun k hk _ => List.mem_cons_of_mem _ hk).trans t1 (fun k hk _ => by simp at hk; subst hk; exact List.mem_cons_self)
  have hall : ∀ a ∈ L ++ [q], BytesAt a.2 a.1.b V ∧ ∀ k ∈ rblk a.2, k ∉ R :: blk vL := fun a ha => by
    rcases List.mem_append.1 ha with e | e
    · exact ⟨h.by_ a e, h.ap a e⟩
    · rw [List.mem_singleton.1 e]; exact ⟨hq, hqb⟩
  refine ⟨⟨hs1.set (i := 0) (by simp) _, ho1.keep t1 (fun k hk hm => by simp at hm; subst hm; exact hnR hk), hnR, fun a ha => (hall a ha).1.keep t2 (hall a ha).2, fun a ha k hk hm => ?_⟩, t2, fun k hk => ?_⟩
  · have h1 := (hall a ha).2 k hk
    have h2 := (hall a ha).1.lt k hk
    rcases List.mem_cons.1 hm with e | e
    · exact h1 (by rw [e]; exact List.mem_cons_self)
    · rcases hnew k e with e2 | e2
      · exact h1 (List.mem_cons_of_mem _ e2)
      · omega
  · rcases List.mem_cons.1 hk with e | e
    · exact .inl (by rw [e]; exact List.mem_cons_self)
    · rcases hnew k e with e2 | e2
      · exact .inl (List.mem_cons_of_mem _ e2)
      · exact .inr e2
namespace FgR
/-- what Feed answers, and what it keeps then -/
def RFed (R : Nat) (L : List (Fg.P × Value)) (vL v : Value) (w : World) (r : Fg.R) (e : Ending) (w' : World) : Prop :=
  ∃ va L' vL', e = .returned (.tuple #[va, .bool r.ok, .int .i64 r.e]) ∧ BytesAt va r.b w' ∧ RAsm R L' vL' w' ∧ L'.map Prod.fst = r.l ∧ Moved (R :: blk vL) (R :: blk vL') w w' ∧ (∀ q ∈ L', q ∈ L ∨ (q.1.b.length ≤ 300 ∧ rblk q.2 = rblk v)) ∧ L'.length ≤ L.length + 1 ∧ r.b.length ≤ 1000000000
set_option maxRecDepth 20000 in
set_option maxHeartbeats 4000000 in
theorem feed_none0 (R : Nat) (L : List (Fg.P × Value)) (vL : Value) (w : World) (h : RAsm R L vL w) (v vx : Value) (kR : Calls Try.prog 30 #[v] w fun e u => ∃ (a b c : Int) (o : Option Addr) (m n : Nat), e = .returned (.tuple #[.agg #[.int .u16 a, .int .i64 b, .int .i64 c, .slice o m n], .bool false]) ∧ Turned [] w u) :
    Calls Try.prog 15 #[.pointer (some ⟨R, 0, none⟩), v] w fun e w' => RFed R L vL vx w ⟨[], false, 2, L.map Prod.fst⟩ e w' := by
  have key : ∀ w', Turned [] w w' → RFed R L vL vx w ⟨[], false, 2, L.map Prod.fst⟩ (.returned (.tuple #[.slice none 0 0, .bool false, .int .i64 2])) w' := fun w' ht =>
    ⟨_, L, vL, rfl, ⟨none, 0, rfl, Nat.le_refl _, fun i a hi => by simp at hi, fun a ha => by cases ha⟩, h.keep ht (by simp) (by simp), rfl, ⟨ht.mono (by simp), fun k hk => .inl hk⟩, fun q hq => .inl hq, by omega, by simp⟩
  clear h
  go_enter Try.func15, Try.ntmps15
  go_wp2_with (go_at_call 30; (with_reducible refine kR.mono ?_); rintro e u1 ⟨a, b, c, d, dm, dn, rfl, HT1⟩)
  refine bodyPost_ret (v := .tuple #[.slice none 0 0, .bool false, .int .i64 2]) (by simp [results, Try.results15, go_sem]) rfl (key _ ?_)
  have hz := HT1.size
  repeat (first | exact HT1 | refine Turned.drew ?_ | refine Turned.alloc ?_ _ | refine Turned.setCell ?_ (Or.inr (by simp; omega)) _)
theorem feed_none (R : Nat) (L : List (Fg.P × Value)) (vL : Value) (w : World) (h : RAsm R L vL w) (v : Value) (l : List Nat) (hb : BytesAt v l w) (h8 : ∀ x ∈ l, x < 256) (hno : Fg.read l = none) :
    Calls Try.prog 15 #[.pointer (some ⟨R, 0, none⟩), v] w fun e w' => RFed R L vL v w ⟨[], false, 2, L.map Prod.fst⟩ e w' := by
  have kR : Calls Try.prog 30 #[v] w fun e u => ∃ (a b c : Int) (o : Option Addr) (m n : Nat), e = .returned (.tuple #[.agg #[.int .u16 a, .int .i64 b, .int .i64 c, .slice o m n], .bool false]) ∧ Turned [] w u := (read_any v l w hb h8).mono fun e u ⟨⟨⟨q1, q2⟩, ok, he, ⟨o, m, n, hq⟩, hn, _⟩, ht⟩ => ⟨(q1.id : Int), (q1.n : Int), (q1.at_ : Int), o, m, n, by rw [he, hn hno, show q2 = _ from hq]; rfl, ht⟩
  exact feed_none0 R L vL w h v v kR
/-- what is told of a part -/
theorem read_some (v : Value) (l : List Nat) (w : World) (hb : BytesAt v l w) (h8 : ∀ x ∈ l, x < 256) (p : Fg.P) (hp : Fg.read l = some p) :
    Calls Try.prog 30 #[v] w fun e u => ∃ (o : Option Addr) (m c : Nat), e = .returned (.tuple #[.agg #[.int .u16 (p.id : Int), .int .i64 (p.n : Int), .int .i64 (p.at_ : Int), .slice o m c], .bool true]) ∧ BytesAt (.slice o m c) p.b u ∧ rblk (.slice o m c) = rblk v ∧ Turned [] w u := by
  refine (read_any v l w hb h8).mono ?_
  rintro e u ⟨⟨q, ok, he, _, _, hy⟩, ht⟩
  obtain ⟨hok, hq, hbb, hrb⟩ := hy p hp
  obtain ⟨q1, q2⟩ := q
  subst hq
  obtain ⟨o, c, e2, hrest⟩ := hbb
  simp only at e2
  subst e2
  exact ⟨o, _, c, by rw [he, hok]; rfl, ⟨o, c, rfl, hrest⟩, hrb, ht⟩
set_option maxRecDepth 20000 in
set_option maxHeartbeats 8000000 in
theorem feed_some (R : Nat) (L : List (Fg.P × Value)) (vL : Value) (w : World) (h : RAsm R L vL w) (hl : L.length ≤ 1000) (hb3 : ∀ q ∈ L, q.1.b.length ≤ 300) (v : Value) (l : List Nat) (hb : BytesAt v l w) (h8 : ∀ x ∈ l, x < 256) (hv : ∀ k ∈ rblk v, k ∉ R :: blk vL) (p : Fg.P) (hsome : Fg.read l = some p) :
    Calls Try.prog 15 #[.pointer (some ⟨R, 0, none⟩), v] w fun e w' => RFed R L vL v w (Fg.feed (L.map Prod.fst) p) e w' := by
  have kR := read_some v l w hb h8 p hsome
  have HF := (Fg.read_formed h8 hsome).1
  obtain ⟨M, hM⟩ : ∃ M, M = L.map Prod.fst := ⟨_, rfl⟩
  have hMl : M.length = L.length := by rw [hM, List.length_map]
  rw [← hM]
  have HMM : Hid (M = L.map Prod.fst) := hM
  have HML : Hid (M.length = L.length) := hMl
  have hl' : (L.length : Int) ≤ 1000 := by omega
  obtain ⟨oa, cap, rfl, _, _⟩ := OwnL.form h.ow
  have hlv := hb.lt
  clear hM hMl hb h8 hl hsome
  go_enter Try.func15, Try.ntmps15
  go_wp2_with (go_at_call 30; (with_reducible refine kR.mono ?_); rintro e u1 ⟨ov, mv, cv, rfl, HB1, hrb, HT1⟩)
  -- BODY
  obtain ⟨W1, hW1⟩ : ∃ W, W = u1.alloc (.cells #[.int .u16 (p.id : Int), .int .i64 (p.n : Int), .int .i64 (p.at_ : Int), .slice ov mv cv] 83) := ⟨_, rfl⟩
  obtain ⟨P, hP⟩ : ∃ P, P = u1.heap.size := ⟨_, rfl⟩
  rw [← hW1, ← hP]
  have hT1 : Turned [] w W1 := by rw [hW1]; exact HT1.alloc _
  have hS : Struct P [.int .u16 (p.id : Int), .int .i64 (p.n : Int), .int .i64 (p.at_ : Int), .slice ov mv cv] W1 := by rw [hW1, hP]; exact Struct.new u1 [.int .u16 (p.id : Int), .int .i64 (p.n : Int), .int .i64 (p.at_ : Int), .slice ov mv cv] _
  have HBP : Hid (BytesAt (.slice ov mv cv) p.b W1) := by show BytesAt _ _ _; rw [hW1]; exact HB1.keep ((Turned.refl [] u1).alloc _) (by simp)
  have HPw : Hid (w.heap.size ≤ P) := by show _ ≤ _; rw [hP]; exact HT1.size
  have HOLD : Hid (Fg.old p M = true → ∀ w', Turned [] w w' → RFed R L (.slice oa L.length cap) v w (Fg.feed M p) (.returned (.tuple #[.slice none 0 0, .bool false, .int .i64 8])) w') := fun ho w' ht => by
    unfold Fg.feed
    rw [if_pos ho]
    exact ⟨_, L, _, rfl, FgW.nil_bytes w', h.keep ht (by simp) (by simp), HMM.out.symm, ⟨ht.mono (by simp), fun k hk => .inl hk⟩, fun q hq => .inl hq, by omega, by simp⟩
  have HLT : Hid (∀ k ∈ R :: blk (.slice oa L.length cap), k < w.heap.size) := fun k hk => by
    rcases List.mem_cons.1 hk with e | e
    · rw [e]; exact h.st.1
    · exact h.ow.lt k e
  clear hW1 hP HB1 HT1 kR
  go_loopw [9, 10] (fun c i wr => ∃ (k n : Nat), k ≤ L.length ∧ i = .int .i64 (k : Int) ∧ c = .int .i64 (n : Int) ∧ n = (Fg.got p (M.take k)).length ∧ Fg.old p (M.take k) = false ∧ Turned [] W1 wr) (fun _ i _ => L.length - (intOf i).toNat)
  case atStart => exact ⟨0, 0, by omega, rfl, rfl, by simp [Fg.got], by simp [Fg.old], Turned.refl _ _⟩
  case round =>
    obtain ⟨k, n, hk, rfl, rfl, hn, hold, ht⟩ := hrel
    have hr := h.keep (hT1.trans ht (by simp)) (by simp) (by simp)
    have hSr := hS.keep ht (by simp)
    have c0 := (hr.st.2 0 _ rfl).1
    have hnk : (n : Int) ≤ (k : Int) := by
      have h1 : n ≤ (M.take k).length := by rw [hn]; exact List.length_filter_le _ _
      rw [List.length_take] at h1
      omega
    by_cases hlt : (k : Int) < (L.length : Int)
    · obtain ⟨q, hq⟩ : ∃ q, L[k]? = some q := ⟨_, List.getElem?_eq_getElem (by omega)⟩
      have hqM : M[k]? = some q.1 := by rw [HMM.out, List.getElem?_map, hq]; rfl
      have hgn := Fg.got_next (p := p) hqM
      have hon := Fg.old_next (p := p) hqM
      rw [hold, Bool.false_or] at hon
      rw [← hn] at hgn
      obtain ⟨g, cap', hvv, _, hg, hcq⟩ := hr.ow.cell ptEnc_len hq
      simp at hvv
      obtain ⟨rfl, rfl⟩ := hvv
      have q0 := (hcq 0 _ rfl).1
      have q1 := (hcq 1 _ rfl).1
      have q2 := (hcq 2 _ rfl).1
      have q3 := (hcq 3 _ rfl).1
      rw [Nat.add_zero] at q0
      have p0 := (hSr.2 0 _ rfl).1
      have p1 := (hSr.2 1 _ rfl).1
      have p2 := (hSr.2 2 _ rfl).1
      have p3 := (hSr.2 3 _ rfl).1
      have ne : Nonempty (KeptW wr) := KeptW.one wr
      have d0 := KeptW.at hr.st.1 c0
      have d1 := KeptW.at hg q0
      have d2 := KeptW.at hg q1
      have d3 := KeptW.at hg q2
      have d4 := KeptW.at hg q3
      have d5 := KeptW.at hSr.1 p0
      have d6 := KeptW.at hSr.1 p1
      have d7 := KeptW.at hSr.1 p2
      have d8 := KeptW.at hSr.1 p3
      have g1 := fun (u : KeptW wr) => kept_call ((mine_any q (p, .slice ov mv cv) u.u).mono fun e w' h => ⟨h.1, h.2.none⟩)
      unfold ptVal at g1
      simp only at g1
      obtain ⟨m, hm⟩ : ∃ m, m = Fg.mine q.1 p := ⟨_, rfl⟩
      rw [← hm] at g1 hon hgn
      have HQM : Hid (M[k]? = some q.1) := hqM
      have HM : Hid (m = Fg.mine q.1 p) := hm
      clear hm hqM hq hcq hn hold
      cases m
      · rw [if_neg (by decide), Nat.add_zero] at hgn
        rw [Bool.false_and] at hon
        have HG : Hid (n = (Fg.got p (M.take (k + 1))).length) := hgn.symm
        have HO : Hid (Fg.old p (M.take (k + 1)) = false) := hon
        clear hgn hon
        go_wp2_with fail
        refine wp_region_kept (by kernel_rfl) (by kernel_rfl) ?_
        repeat (go_big_quiet_step (first | (go_at_call 31; with_reducible exact g1 _)))
        refine wpQuiet_nil ?_
        rintro _ ⟨vv, rfl⟩
        have htv : Turned [] wr vv.u := Turned.ofBelow vv.h
        go_wp2_with fail
        go_roundw
        case rel => exact ⟨k + 1, n, by omega, by go_num, rfl, HG.out, HO.out, ht.trans htv (by simp)⟩
        case measure => simp [intOf]; omega
      · rw [if_pos rfl] at hgn
        rw [Bool.true_and] at hon
        have HG : Hid (n + 1 = (Fg.got p (M.take (k + 1))).length) := hgn.symm
        have HO : Hid (Fg.old p (M.take (k + 1)) = (q.1.at_ == p.at_)) := hon
        clear hgn hon
        go_wp2_with fail
        refine wp_region_kept (by kernel_rfl) (by kernel_rfl) ?_
        repeat (go_big_quiet_step (first | (go_at_call 31; with_reducible exact g1 _)))
        refine wpQuiet_nil ?_
        rintro _ ⟨vv, rfl⟩
        have htv : Turned [] wr vv.u := Turned.ofBelow vv.h
        have e0 := d0 vv
        have e3 := d3 vv
        have e7 := d7 vv
        obtain ⟨V, hV⟩ : ∃ V, V = vv.u := ⟨_, rfl⟩
        rw [← hV] at htv e0 e3 e7 ⊢
        clear d0 d1 d2 d3 d4 d5 d6 d7 d8 g1 ne hV p0 p1 p2 p3 q0 q1 q2 q3
        go_wp2_with fail
        by_cases hat : (q.1.at_ : Int) = (p.at_ : Int)
        · have HO2 : Hid (Fg.old p M = true) := Fg.old_yes HQM.out HM.out.symm (by omega)
          have HT : Hid (Turned [] w V) := (hT1.trans ht (by simp)).trans htv (by simp)
          go_quiet (fail)
          go_wp2_with fail
          refine bodyPost_ret (v := .tuple #[.slice none 0 0, .bool false, .int .i64 8]) (by simp [results, Try.results15, go_sem]) rfl (HOLD.out HO2.out _ ?_)
          exact HT.out.trans (turned_drewN _ _) (by simp)
        · have HO3 : Hid (Fg.old p (M.take (k + 1)) = false) := by
            show _ = false
            rw [HO.out]
            exact beq_eq_false_iff_ne.2 (by omega)
          clear HO
          go_quiet (fail)
          go_wp2_with fail
          go_roundw
          case rel => exact ⟨k + 1, n + 1, by omega, by go_num, by go_num, HG.out, HO3.out, (ht.trans htv (by simp)).trans (turned_drewN _ _) (by simp)⟩
          case measure => simp [intOf]; omega
    · have hkL : M.take k = M := List.take_of_length_le (by rw [HML.out]; omega)
      rw [hkL] at hn hold
      have HN : Hid (n = (Fg.got p M).length) := hn
      have HO : Hid (Fg.old p M = false) := hold
      have hn1000 : (n : Int) ≤ 1000 := by omega
      have HR : Hid (RAsm R L (.slice oa L.length cap) wr) := hr
      have HS : Hid (Struct P [.int .u16 (p.id : Int), .int .i64 (p.n : Int), .int .i64 (p.at_ : Int), .slice ov mv cv] wr) := hSr
      have HT : Hid (Turned [] w wr) := hT1.trans ht (by simp)
      have HBr : Hid (BytesAt (.slice ov mv cv) p.b wr) := HBP.out.keep ht (by simp)
      have kW : ∀ u, Turned [] wr u → Calls Try.prog 18 #[.pointer (some ⟨R, 0, none⟩)] u fun e w' => e = .returned (.int .i64 (Fg.waits M : Int)) ∧ Turned [] u w' := fun u hu => by
        rw [HMM.out]
        exact waits_any R L _ u (HR.out.keep hu (by simp) (by simp)) (by omega)
      clear hkL hn hold hr hSr ht hk hnk hT1 hS h
      go_upto_region 12 with fail
      clear c0 hlt
      go_cut [9, 58] from 15 (fun n9 t u => n9 = .int .i64 (n : Int) ∧ t = .bool (decide ((Fg.got p M).length = 0 ∧ Fg.waits M = 4)) ∧ Turned [] wr u)
      case first =>
        by_cases hn0 : (n : Int) = 0
        · by_cases h4 : (Fg.waits M : Int) = 4
          · go_wp2_with (go_at_call 18; (with_reducible refine (kW _ (Turned.refl [] _)).mono ?_); rintro e u2 ⟨rfl, HT2⟩)
            go_meet
            case rel => exact ⟨by rw [hn0], by rw [decide_eq_true (show _ ∧ _ from ⟨by have := HN.out; omega, by omega⟩)], HT2⟩
          · go_wp2_with (go_at_call 18; (with_reducible refine (kW _ (Turned.refl [] _)).mono ?_); rintro e u2 ⟨rfl, HT2⟩)
            go_meet
            case rel => exact ⟨by rw [hn0], by rw [decide_eq_false (show ¬ (_ ∧ _) from fun hh => h4 (by omega))]; exact congrArg Value.bool (beq_eq_false_iff_ne.2 h4), HT2⟩
        · go_wp2_with fail
          go_meet
          case rel => exact ⟨rfl, by rw [decide_eq_false (show ¬ (_ ∧ _) from fun hh => hn0 (by have := HN.out; omega))], Turned.refl _ _⟩
      case rest =>
        obtain ⟨rfl, rfl, hTc⟩ := hcut
        go_upto_if 58 with fail
        go_cut [] from 15 (fun u => ∃ (L1 : List (Fg.P × Value)) (o1 : Option Addr) (c1 : Nat), RAsm R L1 (.slice o1 L1.length c1) u ∧ L1.map Prod.fst = Fg.room p M ∧ Moved (R :: blk (.slice oa L.length cap)) (R :: blk (.slice o1 L1.length c1)) w u ∧ (∀ q ∈ L1, q ∈ L) ∧ L1.length ≤ L.length ∧ Struct P [.int .u16 (p.id : Int), .int .i64 (p.n : Int), .int .i64 (p.at_ : Int), .slice ov mv cv] u ∧ BytesAt (.slice ov mv cv) p.b u ∧ P ∉ R :: blk (.slice o1 L1.length c1))
        case first =>
          by_cases hd : (Fg.got p M).length = 0 ∧ Fg.waits M = 4
          · rw [decide_eq_true hd]
            have hr := HR.out.keep hTc (by simp) (by simp)
            have hSr := HS.out.keep hTc (by simp)
            have hBw := HBr.out.keep hTc (by simp)
            have hL0 : 0 < L.length := by
              cases L with
              | nil => rw [HMM.out] at hd; exact absurd hd.2 (by decide)
              | cons a b => exact Nat.zero_lt_succ _
            obtain ⟨q, hq⟩ : ∃ q, L[0]? = some q := ⟨_, List.getElem?_eq_getElem hL0⟩
            have HQM : Hid (M[0]? = some q.1) := by show _ = _; rw [HMM.out, List.getElem?_map, hq]; rfl
            obtain ⟨g, cap', hvv, _, hg, hcq⟩ := hr.ow.cell ptEnc_len hq
            simp at hvv
            obtain ⟨rfl, rfl⟩ := hvv
            have q0 := (hcq 0 _ rfl).1
            have q1 := (hcq 1 _ rfl).1
            have q2 := (hcq 2 _ rfl).1
            have q3 := (hcq 3 _ rfl).1
            rw [Nat.zero_mul, Nat.zero_add] at q0 q1 q2 q3
            have c0 := (hr.st.2 0 _ rfl).1
            have hL0' : (0 : Int) < (L.length : Int) := by omega
            have kD := drop_any R L _ q wc hr (by omega)
            unfold ptVal at kD
            have HD : Hid ((Fg.got p M).length = 0 ∧ Fg.waits M = 4) := hd
            clear hcq hq hd
            go_wp2_with (go_at_call 32; (with_reducible refine kD.mono ?_); rintro e u2 ⟨rfl, vL2, HR2, HM2⟩)
            obtain ⟨o2, c2, rfl, _, _⟩ := OwnL.form HR2.ow
            go_meet
            case rel => exact ⟨_, o2, c2, HR2, by rw [Fg.room_yes (List.length_eq_zero_iff.1 HD.out.1) HD.out.2 HQM.out, HMM.out]; unfold Fg.drop; rw [List.filter_map]; rfl, ⟨((HT.out.trans hTc (by simp)).mono (by simp)).trans HM2.1 (fun k hk _ => hk), fun k hk => (HM2.2 k hk).imp _root_.id fun hh => by have h1 := HT.out.size; have h2 := hTc.size; omega⟩, fun q hq => (List.mem_filter.1 hq).1, List.length_filter_le _ _, hSr.keep HM2.1 (fun hm => by have h1 := HLT.out P hm; have := HPw.out; omega), hBw.keep HM2.1 (fun k hk => hv k (by rw [← hrb]; exact hk)), fun hm => by
              rcases HM2.2 P hm with e | e
              · have h1 := HLT.out P e; have := HPw.out; omega
              · have h1 := hSr.1; omega⟩
          · rw [decide_eq_false hd]
            go_wp2_with fail
            go_meet
            case rel => exact ⟨L, oa, cap, HR.out.keep hTc (by simp) (by simp), by rw [Fg.room_no (fun hh => hd ⟨by rw [hh.1]; rfl, hh.2⟩), HMM.out], ⟨(HT.out.trans hTc (by simp)).mono (by simp), fun k hk => .inl hk⟩, fun q hq => hq, Nat.le_refl _, HS.out.keep hTc (by simp), HBr.out.keep hTc (by simp), fun hm => by have h1 := HLT.out P hm; have := HPw.out; omega⟩
        case rest =>
          obtain ⟨L1, o1, c1, hR1, hM1, hMv1, hsub, hlen, hS1, hB1, hPN⟩ := hcut
          have hL1 : (L1.length : Int) ≤ 1000 := by omega
          have hnq : ∀ k ∈ rblk (.slice ov mv cv), k ∉ R :: blk (.slice o1 L1.length c1) := fun k hk hm => by
            rw [hrb] at hk
            rcases hMv1.2 k hm with e | e
            · exact hv k hk e
            · have := hlv k hk; omega
          have HNQ : Hid (∀ k ∈ rblk (.slice ov mv cv), k ∉ R :: blk (.slice o1 L1.length c1)) := hnq
          have HR1 : Hid (RAsm R L1 (.slice o1 L1.length c1) wc) := hR1
          have HS1 : Hid (Struct P [.int .u16 (p.id : Int), .int .i64 (p.n : Int), .int .i64 (p.at_ : Int), .slice ov mv cv] wc) := hS1
          have HB1 : Hid (BytesAt (.slice ov mv cv) p.b wc) := hB1
          have HM1 : Hid (L1.map Prod.fst = Fg.room p M) := hM1
          have HMV1 : Hid (Moved (R :: blk (.slice oa L.length cap)) (R :: blk (.slice o1 L1.length c1)) w wc) := hMv1
          have HSUB : Hid (∀ q ∈ L1, q ∈ L) := hsub
          have HPN : Hid (P ∉ R :: blk (.slice o1 L1.length c1)) := hPN
          have c0 := (hR1.st.2 0 _ rfl).1
          have cR := hR1.st.1
          have cP := hS1.1
          have p0 := (hS1.2 0 _ rfl).1
          have p1 := (hS1.2 1 _ rfl).1
          have p2 := (hS1.2 2 _ rfl).1
          have p3 := (hS1.2 3 _ rfl).1
          have hone := hB1.one
          have b1 : L1.length + 1 ≤ maxLen := by unfold maxLen; omega
          have b2 : (L1.length + 1) * 48 ≤ 140737488355328 := by omega
          clear hS1 hB1 hM1 hMv1 hsub hnq hTc hR1 hPN
          go_upto_region 14 with fail
          go_cut [] from 15 (fun u => ∃ (o2 : Option Addr) (c2 : Nat), RAsm R (L1 ++ [(p, .slice ov mv cv)]) (.slice o2 (L1.length + 1) c2) u ∧ Moved (R :: blk (.slice o1 L1.length c1)) (R :: blk (.slice o2 (L1.length + 1) c2)) wc u)
          case first =>
            have hw0 : ∀ (o : Obj), OwnL 83 4 ptEnc (.slice o1 L1.length c1) L1 (wc.alloc o) := fun o => HR1.out.ow.keep ((Turned.refl [] wc).alloc o) (by simp)
            go_region_law (first
              | (refine step_push (v := .slice o1 L1.length c1) elem_pt rfl _ _ rfl rfl (hw0 _) wc.heap.size 0 1 1 [(p, .slice ov mv cv)] rfl rfl ptEnc_len (part_one hone) (part_cells (p, .slice ov mv cv) wc _) b1 b2 ?_; intro v' w1 ho1 ht1 hb1; obtain ⟨f1, f2, f3, f4⟩ := HR1.out.push HB1.out HNQ.out ho1 (by first | exact (((Turned.refl [] wc).alloc _).drew) | exact ((Turned.refl [] wc).alloc _)) ht1 hb1; obtain ⟨o2, c2, hv2, _, _⟩ := OwnL.form ho1; rw [List.length_append, List.length_singleton] at hv2; subst hv2)
              | fail)
            all_goals go_wp2_with fail
            all_goals go_meet
            all_goals exact ⟨o2, c2, f4 _ rfl⟩
          case rest =>
            obtain ⟨o2, c2, hR2, hMv2⟩ := hcut
            clear c0 cR cP p0 p1 p2 p3
            have hS2 := HS1.out.keep hMv2.1 HPN.out
            have HPN2 : Hid (P ∉ R :: blk (.slice o2 (L1.length + 1) c2)) := fun hm => by
              rcases hMv2.2 P hm with e | e
              · exact HPN.out e
              · have := HS1.out.1; omega
            have HMV : Hid (Moved (R :: blk (.slice oa L.length cap)) (R :: blk (.slice o2 (L1.length + 1) c2)) w wc) := HMV1.out.trans hMv2
            obtain ⟨L2, hL2⟩ : ∃ X, X = L1 ++ [(p, .slice ov mv cv)] := ⟨_, rfl⟩
            obtain ⟨N2, hN2⟩ : ∃ X, X = L1.length + 1 := ⟨_, rfl⟩
            rw [← hL2, ← hN2] at hR2
            rw [← hN2] at HPN2 HMV
            have HL2 : Hid (L2.length = N2) := by show _ = _; rw [hL2, hN2, List.length_append, List.length_singleton]
            have hN2b : (N2 : Int) ≤ 1001 := by omega
            have HN2L : Hid (N2 ≤ L.length + 1) := by show _ ≤ _; omega
            have HM2 : Hid (L2.map Prod.fst = Fg.room p M ++ [p]) := by show _ = _; rw [hL2, List.map_append, HM1.out]; rfl
            have HB300 : Hid (∀ q ∈ L2, (q ∈ L ∨ (q.1.b.length ≤ 300 ∧ rblk q.2 = rblk v)) ∧ q.1.b.length ≤ 300) := fun q hq => by
              rw [hL2] at hq
              rcases List.mem_append.1 hq with e | e
              · exact ⟨.inl (HSUB.out q e), hb3 q (HSUB.out q e)⟩
              · rw [List.mem_singleton.1 e]; exact ⟨.inr ⟨HF.b1, hrb⟩, HF.b1⟩
            have HR2 : Hid (RAsm R L2 (.slice o2 N2 c2) wc) := hR2
            have HS2 : Hid (Struct P [.int .u16 (p.id : Int), .int .i64 (p.n : Int), .int .i64 (p.at_ : Int), .slice ov mv cv] wc) := hS2
            have c0 := (hR2.st.2 0 _ rfl).1
            have cR := hR2.st.1
            have cP := hS2.1
            have p1 := (hS2.2 1 _ rfl).1
            have hpn : (p.n : Int) ≤ 14 := by have := HF.n; omega
            have HFF : Hid (Fg.Formed p) := HF
            clear hMv2 hS2 hR2 hL2 hN2 HM1 HMV1 HSUB HB1 HS1 HR1 HNQ HPN hlen hL1 hb3 HF b1 b2 hone
            by_cases hc : (n : Int) + 1 < (p.n : Int)
            · have hfe : Fg.feed M p = ⟨[], false, 0, Fg.room p M ++ [p]⟩ := by
                unfold Fg.feed
                rw [if_neg (by rw [HO.out]; decide), if_pos (by have := HN.out; omega)]
              have key : ∀ u, Turned [] wc u → RFed R L (.slice oa L.length cap) v w (Fg.feed M p) (.returned (.tuple #[.slice none 0 0, .bool false, .int .i64 0])) u := fun u hu => by
                rw [hfe]
                exact ⟨_, L2, _, rfl, FgW.nil_bytes u, HR2.out.keep hu (by simp) (by simp), HM2.out, ⟨HMV.out.1.trans hu (by simp), HMV.out.2⟩, fun q hq => (HB300.out q hq).1, by rw [HL2.out]; exact HN2L.out, by simp⟩
              have KEY : Hid (∀ u, Turned [] wc u → RFed R L (.slice oa L.length cap) v w (Fg.feed M p) (.returned (.tuple #[.slice none 0 0, .bool false, .int .i64 0])) u) := key
              clear key hfe
              go_wp2_with fail
              refine bodyPost_ret (v := .tuple #[.slice none 0 0, .bool false, .int .i64 0]) (by simp [results, Try.results15, go_sem]) rfl (KEY.out _ ?_)
              repeat (first | exact Turned.refl _ _ | refine Turned.drew ?_)
            · have HFE : Hid (Fg.feed M p = ⟨Fg.whole p (Fg.room p M ++ [p]), true, 0, Fg.drop p (Fg.room p M ++ [p])⟩) := by
                show _ = _
                unfold Fg.feed
                rw [if_neg (by rw [HO.out]; decide), if_neg (by have := HN.out; omega)]
              obtain ⟨M2, hM2⟩ : ∃ X, X = Fg.room p M ++ [p] := ⟨_, rfl⟩
              rw [← hM2] at HM2 HFE
              have HML2 : Hid (M2.length = N2) := by show _ = _; rw [← HL2.out, ← HM2.out, List.length_map]
              clear hM2
              go_wp2_with fail
              go_loopw [11, 12, 13] (fun o t i wr => ∃ (a : Nat), a ≤ p.n ∧ t = .int .i64 (a : Int) ∧ OwnL 5 1 byEnc o (Fg.half p M2 a 0) wr ∧ (Fg.half p M2 a 0).length ≤ a * 300300 ∧ (∀ k ∈ blk o, wc.heap.size ≤ k) ∧ Turned [] wc wr) (fun _ t _ _ => p.n - (intOf t).toNat)
              case atStart => exact ⟨0, by omega, rfl, by rw [Fg.half_zero]; exact OwnL.nil _ _ _ _, by rw [Fg.half_zero]; simp, by simp [blk, Value.ownBlock], by repeat (first | exact Turned.refl _ _ | refine Turned.drew ?_)⟩
              case round =>
                obtain ⟨a, ha, rfl, hO, hOl, hOb, hT⟩ := hrel
                clear c0 cR cP p1
                have hr := HR2.out.keep hT (by simp) (by simp)
                have hSr := HS2.out.keep hT (by simp)
                have p1 := (hSr.2 1 _ rfl).1
                have cP := hSr.1
                by_cases hlt : (a : Int) < (p.n : Int)
                · have ha14 : (a : Int) ≤ 14 := by omega
                  have HOl0 : Hid ((Fg.half p M2 a 0).length ≤ a * 300300 + 0 * 300) := by show _ ≤ _; rw [Nat.zero_mul, Nat.add_zero]; exact hOl
                  have HO0 : Hid (OwnL 5 1 byEnc u11 (Fg.half p M2 a 0) wr) := hO
                  have HT0 : Hid (Turned [] wc wr) := hT
                  clear hO hT hr hSr hOl
                  go_wp2_with fail
                  go_loopw [11, 13] (fun o i wx => ∃ (j : Nat), j ≤ N2 ∧ i = .int .i64 (j : Int) ∧ OwnL 5 1 byEnc o (Fg.half p M2 a j) wx ∧ (Fg.half p M2 a j).length ≤ a * 300300 + j * 300 ∧ (∀ k ∈ blk o, wc.heap.size ≤ k) ∧ Turned [] wc wx) (fun _ i _ => N2 - (intOf i).toNat)
                  case atStart => exact ⟨0, Nat.zero_le _, rfl, HO0.out, HOl0.out, hOb, HT0.out⟩
                  case round =>
                    clear hOb p1 cP
                    obtain ⟨j, hj, rfl, hO, hOl2, hOb, hT⟩ := hrel
                    have hr := HR2.out.keep hT (by simp) (by simp)
                    have hSr := HS2.out.keep hT (by simp)
                    have c0 := (hr.st.2 0 _ rfl).1
                    by_cases hlt2 : (j : Int) < (N2 : Int)
                    · obtain ⟨⟨q1', qv⟩, hq⟩ : ∃ q, L2[j]? = some q := ⟨_, List.getElem?_eq_getElem (by rw [HL2.out]; omega)⟩
                      have hqM : M2[j]? = some q1' := by rw [← HM2.out, List.getElem?_map, hq]; rfl
                      obtain ⟨oq, cq, hqv, hcq', hrq, _⟩ := hr.by_ _ (List.mem_of_getElem? hq)
                      simp only at hqv hcq' hrq
                      subst hqv
                      have hb300 := (HB300.out _ (List.mem_of_getElem? hq)).2
                      simp only at hb300
                      obtain ⟨g, cap', hvv, _, hg, hcq⟩ := hr.ow.cell ptEnc_len hq
                      simp at hvv
                      obtain ⟨rfl, -, rfl⟩ := hvv
                      have q0 := (hcq 0 _ rfl).1
                      have q1 := (hcq 1 _ rfl).1
                      have q2 := (hcq 2 _ rfl).1
                      have q3 := (hcq 3 _ rfl).1
                      rw [Nat.add_zero] at q0
                      simp only at q0 q1 q2 q3
                      have p0 := (hSr.2 0 _ rfl).1
                      have p1 := (hSr.2 1 _ rfl).1
                      have p2 := (hSr.2 2 _ rfl).1
                      have p3 := (hSr.2 3 _ rfl).1
                      have ne : Nonempty (KeptW wr) := KeptW.one wr
                      have d0 := KeptW.at hr.st.1 c0
                      have d1 := KeptW.at hg q0
                      have d2 := KeptW.at hg q1
                      have d3 := KeptW.at hg q2
                      have d4 := KeptW.at hg q3
                      have d5 := KeptW.at hSr.1 p0
                      have d6 := KeptW.at hSr.1 p1
                      have d7 := KeptW.at hSr.1 p2
                      have d8 := KeptW.at hSr.1 p3
                      have g1 := fun (u : KeptW wr) => kept_call ((mine_any (q1', .slice oq q1'.b.length cq) (p, .slice ov mv cv) u.u).mono fun e w' h => ⟨h.1, h.2.none⟩)
                      unfold ptVal at g1
                      simp only at g1
                      obtain ⟨nb, hnb⟩ : ∃ nb, nb = q1'.b.length := ⟨_, rfl⟩
                      rw [← hnb] at g1 q3 d4 hb300
                      have HNB : Hid (q1'.b.length = nb) := hnb.symm
                      have HRQ : Hid (RowOf 1 byEnc oq q1'.b wr) := hrq
                      have HQM : Hid (M2[j]? = some q1') := hqM
                      obtain ⟨X, hX⟩ : ∃ X, X = Fg.half p M2 a j := ⟨_, rfl⟩
                      have HX : Hid (X = Fg.half p M2 a j) := hX
                      rw [← hX] at hO hOl2
                      have HOl2 : Hid (X.length ≤ a * 300300 + j * 300) := hOl2
                      have b1 : X.length + nb ≤ maxLen := by unfold maxLen; omega
                      have b2 : (X.length + nb) * 1 ≤ 140737488355328 := by omega
                      have hb300' : (nb : Int) ≤ 300 := by omega
                      obtain ⟨m, hm⟩ : ∃ m, m = Fg.mine q1' p := ⟨_, rfl⟩
                      rw [← hm] at g1
                      have HM : Hid (m = Fg.mine q1' p) := hm
                      clear hm hqM hq hcq hX hOl2 hnb hrq hcq' hb300
                      cases m
                      · have HH : Hid (Fg.half p M2 a (j + 1) = X) := by
                          show _ = _
                          rw [Fg.half_no HQM.out (by rw [← HM.out]; rfl), HX.out]
                        clear b1 b2
                        go_wp2_with fail
                        refine wp_region_kept (by kernel_rfl) (by kernel_rfl) ?_
                        repeat (go_big_quiet_step (first | (go_at_call 31; with_reducible exact g1 _)))
                        refine wpQuiet_nil ?_
                        rintro _ ⟨vv, rfl⟩
                        have htv : Turned [] wr vv.u := Turned.ofBelow vv.h
                        go_wp2_with fail
                        go_roundw
                        case rel => exact ⟨j + 1, by omega, by go_num, by rw [HH.out]; exact hO.keep htv (by simp), by rw [HH.out]; have := HOl2.out; omega, hOb, hT.trans htv (by simp)⟩
                        case measure => simp [intOf]; omega
                      · by_cases hat : (q1'.at_ : Int) = (a : Int)
                        · have HH : Hid (Fg.half p M2 a (j + 1) = X ++ q1'.b) := by
                            show _ = _
                            rw [Fg.half_yes HQM.out (by rw [← HM.out, Bool.true_and]; exact beq_iff_eq.2 (by omega)), HX.out]
                          simp only [hat] at g1
                          go_wp2_with fail
                          refine wp_region_kept (by kernel_rfl) (by kernel_rfl) ?_
                          repeat (go_big_quiet_step (first | (go_at_call 31; with_reducible exact g1 _)))
                          refine wpQuiet_nil ?_
                          rintro _ ⟨vv, rfl⟩
                          have htv : Turned [] wr vv.u := Turned.ofBelow vv.h
                          have e0 := d0 vv
                          have e4 := d4 vv
                          have hOv := hO.keep htv (by simp)
                          have hrv := HRQ.out.turned htv (by simp)
                          obtain ⟨V, hV⟩ : ∃ V, V = vv.u := ⟨_, rfl⟩
                          rw [← hV] at htv e0 e4 hOv hrv ⊢
                          clear d0 d1 d2 d3 d4 d5 d6 d7 d8 g1 ne hV q0 q1 q2 q3 p0 p1 p2 p3
                          go_wp2_with (at_builtin; refine wp_pushAll (v := u11) elem_u8 rfl _ _ rfl rfl hOv oq nb cq q1'.b HNB.out rfl hrv byEnc_len byEnc_one b1 b2 ?_; intro v' w1 ho1 ht1 hb1)
                          go_roundw
                          case rel => exact ⟨j + 1, by omega, by go_num, by rw [HH.out]; exact ho1, by rw [HH.out, List.length_append, HNB.out]; have := HOl2.out; omega, fun k hk => by
                              rcases hb1 with e | e
                              · rw [e] at hk; exact hOb k hk
                              · rw [e] at hk; simp at hk; have h1 := hT.size; have h2 := htv.size; omega, (hT.trans htv (by simp)).trans ht1 (fun k hk hl => by have := hOb k hk; omega)⟩
                          case measure => simp [intOf]; omega
                        · have HH : Hid (Fg.half p M2 a (j + 1) = X) := by
                            show _ = _
                            rw [Fg.half_no HQM.out (by rw [← HM.out, Bool.true_and]; exact beq_eq_false_iff_ne.2 (by omega)), HX.out]
                          clear b1 b2
                          go_wp2_with fail
                          refine wp_region_kept (by kernel_rfl) (by kernel_rfl) ?_
                          repeat (go_big_quiet_step (first | (go_at_call 31; with_reducible exact g1 _)))
                          refine wpQuiet_nil ?_
                          rintro _ ⟨vv, rfl⟩
                          have htv : Turned [] wr vv.u := Turned.ofBelow vv.h
                          go_wp2_with fail
                          go_roundw
                          case rel => exact ⟨j + 1, by omega, by go_num, by rw [HH.out]; exact hO.keep htv (by simp), by rw [HH.out]; have := HOl2.out; omega, hOb, hT.trans htv (by simp)⟩
                          case measure => simp [intOf]; omega
                    · have hjN : j = N2 := by omega
                      rw [hjN, ← HML2.out, Fg.half_row] at hO hOl2
                      have HOO : Hid (OwnL 5 1 byEnc u11 (Fg.half p M2 (a + 1) 0) wr) := hO
                      have hle : (Fg.half p M2 (a + 1) 0).length ≤ (a + 1) * 300300 := by have := HML2.out; omega
                      clear hO hOl2
                      go_wp2_with fail
                      go_roundw
                      case rel => exact ⟨a + 1, by omega, by go_num, HOO.out, hle, hOb, hT⟩
                      case measure => simp [intOf]; omega
                · have hapn : a = p.n := by omega
                  rw [hapn, Fg.half_all] at hO hOl
                  have p0 := (hSr.2 0 _ rfl).1
                  have p2 := (hSr.2 2 _ rfl).1
                  have p3 := (hSr.2 3 _ rfl).1
                  have kD := drop_any R L2 _ (p, .slice ov mv cv) wr hr (by rw [HL2.out]; omega)
                  unfold ptVal at kD
                  simp only at kD
                  have HOO : Hid (OwnL 5 1 byEnc u11 (Fg.whole p M2) wr) := hO
                  have HLE : Hid ((Fg.whole p M2).length ≤ p.n * 300300) := hOl
                  have HTT : Hid (Turned [] wc wr) := hT
                  clear hO hOl hT hr
                  go_wp2_with (go_at_call 32; (with_reducible refine kD.mono ?_); rintro e u2 ⟨rfl, vL3, HR3, HM3⟩)
                  have hva := HOO.out.keep HM3.1 (fun k hk hm => by
                    have h1 := hOb k hk
                    rcases List.mem_cons.1 hm with e | e
                    · have := HR2.out.st.1; omega
                    · have := HR2.out.ow.lt k e; omega)
                  refine bodyPost_ret (v := .tuple #[u11, .bool true, .int .i64 0]) (by simp [results, Try.results15, go_sem]) rfl ?_
                  rw [HFE.out]
                  exact ⟨_, _, vL3, rfl, (own_bytes hva).1, HR3, by rw [← HM2.out]; unfold Fg.drop; rw [List.filter_map]; rfl, HMV.out.trans ⟨(HTT.out.mono (by simp)).trans HM3.1 (fun k hk _ => hk), fun k hk => (HM3.2 k hk).imp _root_.id fun hh => Nat.le_trans HTT.out.size hh⟩, fun q hq => (HB300.out q (List.mem_filter.1 hq).1).1, Nat.le_trans (List.length_filter_le _ _) (by rw [HL2.out]; exact HN2L.out), by have := HLE.out; show (Fg.whole p M2).length ≤ _; omega⟩
end FgR
end Go.Proofs.Ytkjlbginggppaaa


/- The script's steps, as they come in: each with a slice of bytes (open_fops). -/
namespace Go.Proofs.Ytkjlbginggppaaa
open Go.ChangeShapes Go.WideShapes Go.ChangeAt Go.RowKit
set_option linter.unusedVariables false
set_option linter.unusedSimpArgs false

/-- a step: raw, whose, which, the bytes -/
structure FOp where
  raw : Bool
  k : Int
  i : Int
  o : Option Addr
  l : List Nat
  c : Nat
def fopEnc (s : FOp) : List Value := [.bool s.raw, .int .i64 s.k, .int .i64 s.i, .slice s.o s.l.length s.c]
structure FopOk (s : FOp) (w : World) : Prop where
  row : RowOf 1 byEnc s.o s.l w
  cap : s.l.length ≤ s.c
  lt : ∀ x ∈ s.l, x < 256
  k : -9223372036854775808 ≤ s.k ∧ s.k < 9223372036854775808
  i : -9223372036854775808 ≤ s.i ∧ s.i < 9223372036854775808
structure FopsIn (oa : Option Addr) (S : List FOp) (w : World) : Prop where
  row : RowOf 4 fopEnc oa S w
  each : ∀ s ∈ S, FopOk s w
theorem fi64_wf {a : Int} (h : (Lit.int .i64 a).wf = true) : -9223372036854775808 ≤ a ∧ a < 9223372036854775808 := by
  simp [Lit.wf, IntKind.min, IntKind.max, IntKind.bits, IntKind.signed] at h; omega
theorem fu8_of (cs : List Value) (h : AllOk [.int .u8] cs) : ∃ a, cs = byEnc a := by
  match cs, h with
  | [_], ⟨⟨b, rfl, hw⟩, _⟩ =>
    simp [Lit.wf, IntKind.min, IntKind.max, IntKind.bits, IntKind.signed] at hw
    exact ⟨b.toNat, by unfold byEnc; rw [show ((b.toNat : Nat) : Int) = b by omega]⟩
theorem fu8_lt {a : Nat} (h : AllOk [.int .u8] (byEnc a)) : a < 256 := by
  obtain ⟨⟨b, hb, hw⟩, _⟩ := h
  simp [byEnc] at hb
  subst hb
  simp [Lit.wf, IntKind.min, IntKind.max, IntKind.bits, IntKind.signed] at hw
  omega

section
variable {H : Type} {enc : TypeId × Value → H} {P : Program} {w : World} {base : Nat} {spare : Nat → Bool} {held : Bool}
/-- a list of what each place of a row has -/
theorem row_all {α : Type} {sz : Nat} {f : α → List Value} {a : Addr} {len : Nat} (ok : α → Prop) (hpos : 0 < sz) (hsz : ∀ x, (f x).length = sz)
    (each : ∀ i, i < len → ∃ x : α, ok x ∧ w.cells? base (a.add (i * sz)) sz = some (f x)) :
    ∃ l : List α, l.length = len ∧ (∀ x ∈ l, ok x) ∧ RowOf sz f (some a) l w := by
  have all : ∀ k, k ≤ len → ∃ l : List α, l.length = k ∧ (∀ a ∈ l, ok a) ∧ ∀ i x, l[i]? = some x → w.cells? base (a.add (i * sz)) sz = some (f x) := by
    intro k
    induction k with
    | zero => intro _; exact ⟨[], rfl, by simp, fun i x hi => by simp at hi⟩
    | succ k ih =>
      intro hk
      obtain ⟨l, hl, ho, hc⟩ := ih (by omega)
      obtain ⟨x, ox, hx⟩ := each k (by omega)
      refine ⟨l ++ [x], by simp [hl], ?_, ?_⟩
      · intro y hy
        rcases List.mem_append.1 hy with hy | hy
        · exact ho y hy
        · simp at hy; subst hy; exact ox
      · intro i y hi
        by_cases e : i < l.length
        · rw [List.getElem?_append_left e] at hi
          exact hc i y hi
        · rw [List.getElem?_append_right (by omega)] at hi
          have : i = k := by
            have := (List.getElem?_eq_some_iff.1 hi).1
            simp at this; omega
          subst this
          rw [hl, Nat.sub_self] at hi
          simp at hi
          subst hi
          exact hx
  obtain ⟨l, hll, ho, hcl⟩ := all len (Nat.le_refl _)
  refine ⟨l, hll, ho, ?_⟩
  intro i x hi
  have hcells := hcl i x hi
  obtain ⟨_, hlen, hcell⟩ := World.cells?_some hcells
  have hlt := World.cells?_block hcells hpos
  obtain ⟨ab, ao, spot⟩ := a
  have hspot : spot = none := by
    have hl0 : 0 < l.length := Nat.lt_of_le_of_lt (Nat.zero_le _) (List.getElem?_eq_some_iff.1 hi).1
    have hc0 := hcl 0 l[0] (List.getElem?_eq_getElem hl0)
    obtain ⟨_, hn0, hcell0⟩ := World.cells?_some hc0
    have h0 := hcell0 0 hpos
    rw [List.getElem?_eq_getElem (by omega)] at h0
    have := World.cell?_spot h0
    simpa [Addr.add] using this
  subst hspot
  have hblk : ab < w.heap.size := by
    rw [Addr.add_lit] at hlt
    exact hlt
  refine ⟨ab, ao, rfl, hblk, fun j u hu => ?_⟩
  have hj : j < sz := by rw [← hlen]; exact (List.getElem?_eq_some_iff.1 hu).1
  have := hcell j hj
  rw [Addr.add_lit, Addr.add_lit, hu] at this
  exact this
/-- a slice of bytes that lies in a struct -/
theorem bytes_in {t e : TypeId} {d n : Nat} {v : Value} {x : DataW H × List MemPlace} (ht : P.underlying t = some (.slice e)) (hf : flat P d e = some [.int .u8]) (hc : P.cellsOf e = 1)
    (h : DataW.trod enc P w base spare held n t [v] = some x) :
    ∃ (oa : Option Addr) (cap : Nat) (l : List Nat), v = .slice oa l.length cap ∧ l.length ≤ cap ∧ RowOf 1 byEnc oa l w ∧ ∀ a ∈ l, a < 256 := by
  rcases Go.Deep.open_slice ht h with ⟨hcs, _⟩ | ⟨a, len, cap, m, n, D, Pl, hcs, hb, hl, hm, hmm, _, hel⟩
  · simp at hcs
    subst hcs
    exact ⟨none, 0, [], rfl, Nat.le_refl _, fun i a hi => by simp at hi, by simp⟩
  · simp at hcs
    subst hcs
    have hlm : len ≤ m := by rw [hmm]; split <;> omega
    obtain ⟨l, hl1, hl2, hl3⟩ := row_all (w := w) (base := base) (a := a) (len := len) (sz := 1) (f := byEnc) (fun x => x < 256) (by decide) (fun _ => rfl) fun i hi => by
      obtain ⟨cs', h1, h2⟩ := hel i (by omega)
      have ok := flat_ok hf h2
      obtain ⟨x, rfl⟩ := fu8_of cs' ok
      rw [hc] at h1
      exact ⟨x, fu8_lt ok, h1⟩
    exact ⟨some a, cap, l, by rw [hl1], by omega, hl3, hl2⟩
/-- a struct of four cells that lies in a row -/
theorem four_in {t : TypeId} {f0 f1 f2 f3 : Field} {n : Nat} {cs : List Value} {x : DataW H × List MemPlace} (hs : P.underlying t = some (.struct #[f0, f1, f2, f3])) (hone : Go.Deep.oneCellFields P #[f0, f1, f2, f3] = true) (hC : P.cellsOf t = 4)
    (h : DataW.trod enc P w base spare held n t cs = some x) :
    ∃ (c0 c1 c2 c3 : Value) (y0 y1 y2 y3 : DataW H × List MemPlace) (n : Nat), cs = [c0, c1, c2, c3] ∧
      DataW.trod enc P w base spare held n f0.type [c0] = some y0 ∧ DataW.trod enc P w base spare held n f1.type [c1] = some y1 ∧ DataW.trod enc P w base spare held n f2.type [c2] = some y2 ∧ DataW.trod enc P w base spare held n f3.type [c3] = some y3 := by
  obtain ⟨y0, y1, y2, y3, n, hx, hl, h0, h1, h2, h3⟩ := Go.Joins.trod_struct4 hs h
  rw [hC] at hl
  match cs, hl with
  | [c0, c1, c2, c3], _ =>
    obtain ⟨o0, k0⟩ := Go.Deep.hone_of hone 0 f0 rfl
    obtain ⟨o1, k1⟩ := Go.Deep.hone_of hone 1 f1 rfl
    obtain ⟨o2, k2⟩ := Go.Deep.hone_of hone 2 f2 rfl
    obtain ⟨o3, k3⟩ := Go.Deep.hone_of hone 3 f3 rfl
    exact ⟨c0, c1, c2, c3, y0, y1, y2, y3, n, rfl, by simpa [o0, k0] using h0, by simpa [o1, k1] using h1, by simpa [o2, k2] using h2, by simpa [o3, k3] using h3⟩
end

set_option maxRecDepth 20000 in
theorem open_fops {H : Type} {enc : TypeId × Value → H} {W : World} {base : Nat} {v : Value} {d : DataW H} {p : List MemPlace}
    (hval : Value.okWide Try.prog W .any base 35 v) (h : DataW.Trod enc Try.prog W 0 (fun _ => true) true 35 v d p) :
    ∃ (oa : Option Addr) (n cap : Nat) (S : List FOp), v = .slice oa n cap ∧ n ≤ maxLen ∧ n ≤ cap ∧ S.length = n ∧ FopsIn oa S W := by
  obtain ⟨oa, len, cap, rfl⟩ := okWide_slice Try.underlying35 hval
  obtain ⟨fuel, hx⟩ := h
  rcases Go.Deep.open_slice Try.underlying35 hx with ⟨hcs, _⟩ | ⟨a, len', cap', m, n, D, Pl, hcs, hb, hl, hm, hmm, _, hel⟩
  · simp [Value.cells] at hcs
    obtain ⟨rfl, rfl, rfl⟩ := hcs
    exact ⟨none, 0, 0, [], rfl, Nat.zero_le _, Nat.le_refl _, rfl, fun i a hi => by simp at hi, by simp⟩
  · simp [Value.cells] at hcs
    obtain ⟨rfl, rfl, rfl⟩ := hcs
    have hlm : len ≤ m := by rw [hmm]; split <;> omega
    obtain ⟨S, hS1, hS2, hS3⟩ := row_all (w := W) (base := 0) (a := a) (len := len) (sz := 4) (f := fopEnc) (fun s => FopOk s W) (by decide) (fun _ => rfl) fun i hi => by
      obtain ⟨cs', h1, h2⟩ := hel i (by omega)
      obtain ⟨c0, c1, c2, c3, y0, y1, y2, y3, n, rfl, g0, g1, g2, g3⟩ := four_in Try.underlying46 (by kernel_rfl) (by kernel_rfl) h2
      obtain ⟨z0, e0, _⟩ := DataW.trod_bool Try.underlying4 g0
      obtain ⟨z1, e1, _, w1⟩ := DataW.trod_int Try.underlying3 g1
      obtain ⟨z2, e2, _, w2⟩ := DataW.trod_int Try.underlying3 g2
      obtain ⟨ob, cb, lb, rfl, q1, q2, q3⟩ := bytes_in (d := 8) Try.underlying25 (by kernel_rfl) (by kernel_rfl) g3
      simp at e0 e1 e2
      subst e0 e1 e2
      rw [show Try.prog.cellsOf 46 = 4 by kernel_rfl] at h1
      exact ⟨⟨z0, z1, z2, ob, lb, cb⟩, ⟨q2, q1, q3, fi64_wf w1, fi64_wf w2⟩, h1⟩
    exact ⟨some a, len, cap, S, rfl, by omega, by omega, hS1, hS3, hS2⟩
end Go.Proofs.Ytkjlbginggppaaa


/- Both assemblers, fed the same bytes one behind the other (FgL). -/
namespace Go.Proofs.Ytkjlbginggppaaa
open Go.RowKit
set_option linter.unusedVariables false
set_option linter.unusedSimpArgs false

namespace FgR
theorem feed_any (R : Nat) (L : List (Fg.P × Value)) (vL : Value) (w : World) (h : RAsm R L vL w) (hl : L.length ≤ 1000) (hb3 : ∀ q ∈ L, q.1.b.length ≤ 300) (v : Value) (l : List Nat) (hb : BytesAt v l w) (h8 : ∀ x ∈ l, x < 256) (hv : ∀ k ∈ rblk v, k ∉ R :: blk vL) :
    Calls Try.prog 15 #[.pointer (some ⟨R, 0, none⟩), v] w fun e w' => RFed R L vL v w (Fg.feedB (L.map Prod.fst) l) e w' := by
  unfold Fg.feedB
  cases hr : Fg.read l with
  | none => exact feed_none R L vL w h v l hb h8 hr
  | some p => exact feed_some R L vL w h hl hb3 v l hb h8 hv p hr
set_option maxRecDepth 20000 in
set_option maxHeartbeats 4000000 in
theorem read_nil (o : Option Addr) (c : Nat) (w : World) :
    Calls Try.prog 30 #[.slice o 0 c] w fun e u => ∃ (a b d : Int) (o : Option Addr) (m n : Nat), e = .returned (.tuple #[.agg #[.int .u16 a, .int .i64 b, .int .i64 d, .slice o m n], .bool false]) ∧ Turned [] w u := by
  go_enter Try.func30, Try.ntmps30
  go_wp2_with fail
  refine bodyPost_ret (v := .tuple #[.agg #[.int .u16 0, .int .i64 0, .int .i64 0, .slice none 0 0], .bool false]) (by simp [results, Try.results30, go_sem]) rfl ⟨0, 0, 0, none, 0, 0, rfl, ?_⟩
  repeat (first | exact Turned.refl _ _ | refine Turned.drew ?_ | refine Turned.alloc ?_ _ | refine Turned.setCell ?_ (Or.inr (by simp)) _)
end FgR
namespace FgW
theorem unpack_nil (o : Option Addr) (c : Nat) (w : World) : Calls Try.prog 23 #[.slice o 0 c] w fun e w' => FgW.Unp [] w e w' ∧ Turned [] w w' := by
  refine (unpack_fail0 [] o c w (fun i a hi => by simp at hi) (Nat.zero_le _) (by simp) (by simp)).mono ?_
  rintro e w' ⟨i, c, a, rfl, ht⟩
  exact ⟨⟨⟨i, c, a, []⟩, none, 0, 0, false, rfl, fun _ => rfl, fun q hq => by cases hq⟩, ht⟩
set_option maxRecDepth 20000 in
set_option maxHeartbeats 4000000 in
theorem feed_void (A : Nat) (L : List (Fg.P × Value)) (vL : Value) (ms : List Ms) (w : World) (h : PAsm A L vL ms w) (o : Option Addr) (c : Nat) :
    Calls Try.prog 14 #[.pointer (some ⟨A, 0, none⟩), .slice o 0 c] w fun e w' => FgW.Fed A L vL ms w ⟨[], false, 2, L.map Prod.fst⟩ e w' := by
  have kU := unpack_nil o c w
  have H : Hid (PAsm A L vL ms w) := h
  clear h
  go_enter Try.func14, Try.ntmps14
  go_wp2_with fail
  refine kU.mono ?_
  rintro e u1 ⟨⟨p, o, m, c, ok, rfl, hk, _⟩, ht1⟩
  obtain rfl := hk rfl
  clear hk kU
  unfold ptVal
  go_wp2_with fail
  refine bodyPost_ret (v := .tuple #[.slice none 0 0, .bool false, .int .i64 2]) (by simp [results, Try.results14, go_sem]) rfl ?_
  have hT : Turned [] w (u1.alloc (.cells #[.int .u16 (p.id : Int), .int .i64 (p.n : Int), .int .i64 (p.at_ : Int), .slice o m c] 66)) := ht1.alloc _
  exact ⟨_, L, vL, ms, rfl, nil_bytes _, H.out.keep hT (by simp) (by simp), rfl, hT.mono (by simp), fun k hk => .inl hk, by simp [rblk]⟩
end FgW

/-- bytes that may be fed: they lie below block N, or there are none -/
def Fedable (N : Nat) (v : Value) (l : List Nat) (w : World) : Prop := (∀ x ∈ l, x < 256) ∧ ((BytesAt v l w ∧ ∀ k ∈ rblk v, k < N) ∨ (l = [] ∧ ∃ o c, v = .slice o 0 c))
theorem Fedable.keep {N : Nat} {v : Value} {l : List Nat} {w w' : World} {S : List Nat} (h : Fedable N v l w) (ht : Turned S w w') (hS : ∀ k ∈ S, N ≤ k) : Fedable N v l w' :=
  ⟨h.1, h.2.imp (fun ⟨h1, h2⟩ => ⟨h1.keep ht fun k hk hm => by have := h2 k hk; have := hS k hm; omega, h2⟩) _root_.id⟩
theorem FopOk.fed {s : FOp} {w : World} {N : Nat} (h : FopOk s w) (hN : w.heap.size ≤ N) : Fedable N (.slice s.o s.l.length s.c) s.l w := by
  refine ⟨h.lt, ?_⟩
  obtain ⟨raw, k, i, o, l, c⟩ := s
  cases l with
  | nil => exact .inr ⟨rfl, o, c, rfl⟩
  | cons x l =>
    obtain ⟨b, off, ho, hb, _⟩ := h.row 0 x rfl
    simp only at ho
    subst ho
    refine .inl ⟨⟨_, c, rfl, h.cap, h.row, fun a ha => by cases ha; exact ⟨hb, rfl⟩⟩, fun k hk => ?_⟩
    simp [rblk] at hk
    omega

/-- A: the program's assembler, R: the reference's; what each keeps; the reference's blocks below z, n parts at most -/
def Both (N A R z n : Nat) (M M' : List Fg.P) (w : World) : Prop := ∃ L vL ms L' vL', PAsm A L vL ms w ∧ RAsm R L' vL' w ∧ L.map Prod.fst = M ∧ L'.map Prod.fst = M' ∧ A ∉ R :: blk vL' ∧ (∀ k ∈ R :: blk vL', ¬ PFoot L vL ms k ∧ N ≤ k ∧ k < z) ∧ (∀ q ∈ L', q.1.b.length ≤ 300 ∧ ∀ k ∈ rblk q.2, k < N) ∧ L'.length ≤ n ∧ N ≤ A ∧ z ≤ w.heap.size
section
variable {N A R z n : Nat} {M M' : List Fg.P} {v : Value} {l : List Nat} {w w' : World}
theorem Both.on (h : Both N A R z n M M' w) (ht : Turned [] w w') : Both N A R z n M M' w' := by
  obtain ⟨L, vL, ms, L', vL', h1, h2, h3, h4, h5, h6, h7, h8, h9, h10⟩ := h
  exact ⟨L, vL, ms, L', vL', h1.keep ht (by simp) (by simp), h2.keep ht (by simp) (by simp), h3, h4, h5, h6, h7, h8, h9, Nat.le_trans h10 ht.size⟩
theorem Both.to (h : Both N A R z n M M' w) (z' : Nat) (hz : z ≤ z') (hz' : z' ≤ w.heap.size) : Both N A R z' n M M' w := by
  obtain ⟨L, vL, ms, L', vL', h1, h2, h3, h4, h5, h6, h7, h8, h9, h10⟩ := h
  exact ⟨L, vL, ms, L', vL', h1, h2, h3, h4, h5, fun k hk => ⟨(h6 k hk).1, (h6 k hk).2.1, by have := (h6 k hk).2.2; omega⟩, h7, h8, h9, hz'⟩
theorem Both.new (w : World) (t1 t2 : TypeId) (N : Nat) (hN : N ≤ w.heap.size) : Both N w.heap.size (w.heap.size + 1) (w.heap.size + 2) 0 [] [] ((w.alloc (.cells #[.slice none 0 0] t1)).alloc (.cells #[.slice none 0 0] t2)) := by
  have h1 := (PAsm.new (w := w) t1).keep ((Turned.refl [] _).alloc (.cells #[.slice none 0 0] t2)) (by simp) (by simp)
  have hs := Struct.new (w.alloc (.cells #[.slice none 0 0] t1)) [.slice none 0 0] t2
  have e : (w.alloc (.cells #[.slice none 0 0] t1)).heap.size = w.heap.size + 1 := by simp
  rw [e] at hs
  refine ⟨[], _, [], [], .slice none 0 0, h1, ⟨hs, OwnL.nil _ _ _ _, by simp [blk, Value.ownBlock], by simp, by simp⟩, rfl, rfl, by simp [blk, Value.ownBlock], ?_, by simp, Nat.le_refl _, hN, by simp⟩
  intro k hk
  simp [blk, Value.ownBlock] at hk
  subst hk
  refine ⟨?_, by omega, by omega⟩
  rintro (hk | ⟨m, hm, _⟩ | ⟨q, hq, _⟩)
  · simp [blk, Value.ownBlock] at hk
  · cases hm
  · cases hq
end
namespace FgL
variable {N A R z n : Nat} {M M' : List Fg.P} {v : Value} {l : List Nat} {w w' : World}
/-- the program is fed -/
theorem two_feed (h : Both N A R z n M M' w) (hv : Fedable N v l w) :
    Calls Try.prog 14 #[.pointer (some ⟨A, 0, none⟩), v] w fun e w' => ∃ va, e = .returned (.tuple #[va, .bool (Fg.feedB M l).ok, .int .i64 (Fg.feedB M l).e]) ∧ BytesAt va (Fg.feedB M l).b w' ∧ (∀ k ∈ rblk va, w.heap.size ≤ k) ∧ Both N A R z n (Fg.feedB M l).l M' w' ∧ Turned [A] w w' := by
  obtain ⟨L, vL, ms, L', vL', h1, h2, h3, h4, h5, h6, h7, h8, h9, h10⟩ := h
  have key : Calls Try.prog 14 #[.pointer (some ⟨A, 0, none⟩), v] w fun e w' => FgW.Fed A L vL ms w (Fg.feedB M l) e w' := by
    rcases hv.2 with ⟨hb, _⟩ | ⟨rfl, o, c, rfl⟩
    · rw [← h3]; exact FgW.feed_any A L vL ms w h1 v l hb hv.1
    · rw [← h3]; exact FgW.feed_void A L vL ms w h1 o c
  refine key.mono ?_
  rintro e w' ⟨va, L2, vL2, ms2, rfl, hb, hp, hl, ht, hf, hva⟩
  refine ⟨va, rfl, hb, hva, ⟨L2, vL2, ms2, L', vL', hp, h2.keep ht (fun k hk hm => by simp at hm; subst hm; exact h5 hk) (fun q hq k hk hm => by simp at hm; have := (h7 q hq).2 k hk; omega), hl, h4, h5, fun k hk => ⟨fun hm => ?_, (h6 k hk).2⟩, h7, h8, h9, Nat.le_trans h10 ht.size⟩, ht⟩
  rcases hf k hm with e | e
  · exact (h6 k hk).1 e
  · have := (h6 k hk).2.2; omega
/-- the reference is fed -/
theorem two_feedR (h : Both N A R z n M M' w) (hn : n ≤ 1000) (hv : Fedable N v l w) :
    Calls Try.prog 15 #[.pointer (some ⟨R, 0, none⟩), v] w fun e w' => ∃ va S, e = .returned (.tuple #[va, .bool (Fg.feedB M' l).ok, .int .i64 (Fg.feedB M' l).e]) ∧ BytesAt va (Fg.feedB M' l).b w' ∧ (Fg.feedB M' l).b.length ≤ 1000000000 ∧ Both N A R w'.heap.size (n + 1) M (Fg.feedB M' l).l w' ∧ Turned S w w' ∧ ∀ k ∈ S, N ≤ k ∧ k < z := by
  obtain ⟨L, vL, ms, L', vL', h1, h2, h3, h4, h5, h6, h7, h8, h9, h10⟩ := h
  obtain ⟨vx, hvx, key⟩ : ∃ vx, (∀ k ∈ rblk vx, k < N) ∧ Calls Try.prog 15 #[.pointer (some ⟨R, 0, none⟩), v] w fun e w' => FgR.RFed R L' vL' vx w (Fg.feedB M' l) e w' := by
    rcases hv.2 with ⟨hb, hlt⟩ | ⟨rfl, o, c, rfl⟩
    · rw [← h4]; exact ⟨v, hlt, FgR.feed_any R L' vL' w h2 (by omega) (fun q hq => (h7 q hq).1) v l hb hv.1 (fun k hk hm => by have := hlt k hk; have := (h6 k hm).2.1; omega)⟩
    · rw [← h4]; exact ⟨.slice none 0 0, by simp [rblk], FgR.feed_none0 R L' vL' w h2 (.slice o 0 c) _ (FgR.read_nil o c w)⟩
  refine key.mono ?_
  rintro e w' ⟨va, L2, vL2, rfl, hb, hp, hl, ht, hq2, hn2, hbl⟩
  have hx : ∀ k ∈ R :: blk vL2, k ∈ R :: blk vL' ∨ w.heap.size ≤ k := ht.2
  have hAw := h1.st.1
  refine ⟨va, R :: blk vL', rfl, hb, hbl, ⟨L, vL, ms, L2, vL2, h1.keep ht.1 h5 (fun k hk hm => (h6 k hm).1 hk), hp, h3, hl, fun hm => ?_, fun k hk => ⟨fun hm => ?_, ?_, ?_⟩, fun q hq => ?_, by omega, h9, Nat.le_refl _⟩, ht.1, fun k hk => (h6 k hk).2⟩
  · rcases hx A hm with e | e
    · exact h5 e
    · omega
  · rcases hx k hk with e | e
    · exact (h6 k e).1 hm
    · have := h1.lt k hm; omega
  · rcases hx k hk with e | e
    · exact (h6 k e).2.1
    · omega
  · rcases List.mem_cons.1 hk with e | e
    · rw [e]; exact hp.st.1
    · exact hp.ow.lt k e
  · rcases hq2 q hq with e | e
    · exact h7 q e
    · exact ⟨e.1, fun k hk => hvx k (by rw [← e.2]; exact hk)⟩
theorem two_waits (h : Both N A R z n M M' w) : Calls Try.prog 17 #[.pointer (some ⟨A, 0, none⟩)] w fun e w' => e = .returned (.int .i64 (Fg.waits M : Int)) ∧ Turned [] w w' := by
  obtain ⟨L, vL, ms, L', vL', h1, h2, rfl, _⟩ := h
  exact FgW.waits_any A L vL ms w h1
theorem two_waitsR (h : Both N A R z n M M' w) (hn : n ≤ 1000) : Calls Try.prog 18 #[.pointer (some ⟨R, 0, none⟩)] w fun e w' => e = .returned (.int .i64 (Fg.waits M' : Int)) ∧ Turned [] w w' := by
  obtain ⟨L, vL, ms, L', vL', h1, h2, _, rfl, _, _, _, h8, _⟩ := h
  exact FgR.waits_any R L' vL' w h2 (by omega)
end FgL
end Go.Proofs.Ytkjlbginggppaaa


/- The law's messages in parts: lists of lists of bytes, piled up (Parts). -/
namespace Go.Proofs.Ytkjlbginggppaaa
open Go.RowKit
set_option linter.unusedVariables false
set_option linter.unusedSimpArgs false

theorem Both.more {N A R z n n' : Nat} {M M' : List Fg.P} {w : World} (h : Both N A R z n M M' w) (hn : n ≤ n') : Both N A R z n' M M' w := by
  obtain ⟨L, vL, ms, L', vL', h1, h2, h3, h4, h5, h6, h7, h8, h9, h10⟩ := h
  exact ⟨L, vL, ms, L', vL', h1, h2, h3, h4, h5, h6, h7, by omega, h9, h10⟩
theorem Both.zle {N A R z n : Nat} {M M' : List Fg.P} {w : World} (h : Both N A R z n M M' w) : z ≤ w.heap.size ∧ N ≤ A := by
  obtain ⟨L, vL, ms, L', vL', h1, h2, h3, h4, h5, h6, h7, h8, h9, h10⟩ := h
  exact ⟨h10, h9⟩

/-- a message's three numbers -/
def fmEnc (m : Nat × Nat × Nat) : List Value := [.int .u16 (m.1 : Int), .int .u16 (m.2.1 : Int), .int .u8 (m.2.2 : Int)]
def FmOk (m : Nat × Nat × Nat) : Prop := m.1 < 65536 ∧ m.2.1 < 65536 ∧ m.2.2 < 256
def fmParts (m : Nat × Nat × Nat) : List (List Nat) := Fg.splitL m.1 (Fg.msg m.2.1 m.2.2)
theorem splitL_lt {id : Nat} {l : List Nat} (hid : id < 65536) (h : ∀ x ∈ l, x < 256) (hl : l.length ≤ 4200) : ∀ y ∈ Fg.splitL id l, ∀ x ∈ y, x < 256 := by
  intro y hy
  unfold Fg.splitL at hy
  split at hy
  · obtain ⟨p, hp, rfl⟩ := List.mem_map.1 hy
    unfold Fg.split at hp
    obtain ⟨i, hi, rfl⟩ := List.mem_map.1 hp
    exact Fg.part_lt hid h hl (List.mem_range.1 hi)
  · cases hy
theorem fmParts_lt {m : Nat × Nat × Nat} (h : FmOk m) : ∀ y ∈ fmParts m, ∀ x ∈ y, x < 256 := splitL_lt h.1 (Fg.msg_lt _ _) (by rw [Fg.msg_len]; omega)
theorem fmParts_len (m : Nat × Nat × Nat) : (fmParts m).length ≤ 14 := (Fg.splitL_sizes _ _).1
theorem fm_of (cs : List Value) (h : AllOk [.int .u16, .int .u16, .int .u8] cs) : ∃ a, cs = fmEnc a := by
  have hl := h.length
  obtain ⟨c0, c1, c2, rfl⟩ : ∃ c0 c1 c2, cs = [c0, c1, c2] := by
    match cs, hl with
    | [a, b, c], _ => exact ⟨a, b, c, rfl⟩
  obtain ⟨⟨x, e0, w0⟩, ⟨y, e1, w1⟩, ⟨z, e2, w2⟩, _⟩ := h
  simp [Lit.wf, IntKind.min, IntKind.max, IntKind.bits, IntKind.signed] at w0 w1 w2
  refine ⟨(x.toNat, y.toNat, z.toNat), ?_⟩
  unfold fmEnc
  rw [e0, e1, e2, show ((x.toNat : Nat) : Int) = x by omega, show ((y.toNat : Nat) : Int) = y by omega, show ((z.toNat : Nat) : Int) = z by omega]
theorem fm_ok {m : Nat × Nat × Nat} (h : AllOk [.int .u16, .int .u16, .int .u8] (fmEnc m)) : FmOk m := by
  obtain ⟨⟨x, e0, w0⟩, ⟨y, e1, w1⟩, ⟨z, e2, w2⟩, _⟩ := h
  simp at e0 e1 e2
  subst e0 e1 e2
  simp [Lit.wf, IntKind.min, IntKind.max, IntKind.bits, IntKind.signed] at w0 w1 w2
  exact ⟨by omega, by omega, by omega⟩

def plEnc (q : List (List Nat) × Value) : List Value := [q.2]
theorem plEnc_len {l : List (List (List Nat) × Value)} : ∀ a ∈ l, (plEnc a).length = 1 := fun _ _ => rfl
theorem pl_one {q : List (List Nat) × Value} (h : q.2.oneCell' = true) : ∀ a ∈ [q], ∀ u ∈ plEnc a, u.oneCell' = true := by
  intro a ha u hu
  rw [List.mem_singleton.1 ha] at hu
  simp [plEnc] at hu
  subst hu
  exact h
theorem elem_ls : ElemOk Try.prog 36 27 (.slice none 0 0) 1 24 := ⟨by kernel_rfl, by kernel_rfl, rfl, by decide⟩
/-- all messages' parts, from block z0 on -/
structure Parts (z0 : Nat) (Ls : List (List (List Nat))) (Q : List (List (List Nat) × Value)) (v5 : Value) (w : World) : Prop where
  ow : OwnL 27 1 plEnc v5 Q w
  mp : Q.map Prod.fst = Ls
  by_ : ∀ q ∈ Q, ∃ lo hi, z0 ≤ lo ∧ hi ≤ w.heap.size ∧ LsB lo hi q.2 q.1 w ∧ ∀ b ∈ blk v5, b < lo ∨ hi ≤ b
  lo : ∀ b ∈ blk v5, z0 ≤ b
section
variable {z0 : Nat} {Ls : List (List (List Nat))} {Q : List (List (List Nat) × Value)} {v5 v' vq : Value} {X : List (List Nat)} {w u1 V Va w1 : World}
theorem Parts.nil (z0 : Nat) (w : World) : Parts z0 [] [] (.slice none 0 0) w := ⟨OwnL.nil _ _ _ _, rfl, by simp, by simp [blk, Value.ownBlock]⟩
theorem Parts.on (h : Parts z0 Ls Q v5 w) (ht : Turned [] w V) : Parts z0 Ls Q v5 V :=
  ⟨h.ow.keep ht (by simp), h.mp, fun q hq => by
    obtain ⟨lo, hi, h1, h2, h3, h4⟩ := h.by_ q hq
    exact ⟨lo, hi, h1, Nat.le_trans h2 ht.size, h3.on ht (by simp), h4⟩, h.lo⟩
theorem Parts.push (h : Parts z0 Ls Q v5 w) (hz : z0 ≤ w.heap.size) (ht : Turned [] w u1) (ht2 : Turned [] u1 V) (hL : LsB u1.heap.size V.heap.size vq X V) (hVa : Turned [] V Va)
    (ho1 : OwnL 27 1 plEnc v' (Q ++ [(X, vq)]) w1) (ht1 : Turned (blk v5) Va w1) (hb1 : blk v' = blk v5 ∨ blk v' = [Va.heap.size]) :
    Parts z0 (Ls ++ [X]) (Q ++ [(X, vq)]) v' w1 ∧ Turned (blk v5) w w1 := by
  have a1 := ht.size
  have a2 := ht2.size
  have a3 := hVa.size
  have a4 := ht1.size
  have T0 : Turned [] w Va := (ht.trans ht2 (by simp)).trans hVa (by simp)
  have T : Turned (blk v5) w w1 := (T0.mono (S' := blk v5) (by simp)).trans ht1 fun k hk _ => hk
  have T2 : Turned (blk v5) V w1 := (hVa.mono (S' := blk v5) (by simp)).trans ht1 fun k hk _ => hk
  have hnew : ∀ b ∈ blk v', b ∈ blk v5 ∨ Va.heap.size ≤ b := fun b hb => by
    rcases hb1 with e | e
    · rw [e] at hb; exact .inl hb
    · rw [e] at hb; simp at hb; exact .inr (by omega)
  have hlt := h.ow.lt
  refine ⟨⟨ho1, by rw [List.map_append, h.mp]; rfl, fun q hq => ?_, fun b hb => ?_⟩, T⟩
  · rcases List.mem_append.1 hq with e | e
    · obtain ⟨lo, hi, h1, h2, h3, h4⟩ := h.by_ q e
      refine ⟨lo, hi, h1, by omega, h3.on T (fun b hb hin => by have := h4 b hb; omega), fun b hb => ?_⟩
      rcases hnew b hb with e2 | e2
      · exact h4 b e2
      · exact .inr (by omega)
    · rw [List.mem_singleton.1 e]
      refine ⟨u1.heap.size, V.heap.size, by omega, by omega, hL.on T2 (fun b hb hin => by have := hlt b hb; omega), fun b hb => ?_⟩
      rcases hnew b hb with e2 | e2
      · have := hlt b e2; exact .inl (by omega)
      · exact .inr (by omega)
  · rcases hnew b hb with e | e
    · exact h.lo b e
    · omega
/-- what is looked up, later -/
theorem Parts.look {N : Nat} {S : List Nat} (h : Parts z0 Ls Q v5 w) (hN : w.heap.size ≤ N) (h8 : ∀ X ∈ Ls, ∀ y ∈ X, ∀ x ∈ y, x < 256) (ht : Turned S w V) (hS : ∀ b ∈ S, w.heap.size ≤ b) {k : Nat} (hk : Ls[k]? = some X) :
    ∃ g c5 oX cX, v5 = .slice (some ⟨g, 0, none⟩) Ls.length c5 ∧ g < V.heap.size ∧ V.cell? ⟨g, k, none⟩ = some (.slice oX X.length cX) ∧
      ∀ i l, X[i]? = some l → ∃ g' o' ob cb, oX = some ⟨g', o', none⟩ ∧ g' < V.heap.size ∧ V.cell? ⟨g', o' + i, none⟩ = some (.slice ob l.length cb) ∧ Fedable N (.slice ob l.length cb) l V := by
  have hm := h.mp
  subst hm
  rw [List.getElem?_map] at hk
  obtain ⟨q, hq, rfl⟩ := Option.map_eq_some_iff.1 hk
  obtain ⟨g, c5, hv, hbk, hg, hc⟩ := h.ow.cell plEnc_len hq
  have hc0 := (hc 0 q.2 rfl).1
  rw [Nat.mul_one, Nat.add_zero] at hc0
  obtain ⟨lo, hi, h1, h2, h3, h4⟩ := h.by_ q (List.mem_of_getElem? hq)
  have h3' := h3
  obtain ⟨oX, cX, Q2, hqv, _⟩ := h3'
  refine ⟨g, c5, oX, cX, by rw [hv, List.length_map], Nat.lt_of_lt_of_le hg ht.size, ?_, fun i l hi2 => ?_⟩
  · rw [← hqv]
    exact (ht.cell (p := ⟨g, k, none⟩) hg (fun hm => by have := hS _ hm; simp at this; omega)).trans hc0
  · rw [hqv] at h3
    obtain ⟨g', o', vb, ho, hg', hcell, hby, hbl⟩ := h3.elem hi2
    obtain ⟨ob, cb, hvb, hrest⟩ := _root_.id hby
    subst hvb
    refine ⟨g', o', ob, cb, ho, Nat.lt_of_lt_of_le hg' ht.size, (ht.cell (p := ⟨g', o' + i, none⟩) hg' (fun hm => by have := hS _ hm; simp at this; omega)).trans hcell, ?_⟩
    have h8' : ∀ x ∈ l, x < 256 := h8 q.1 (List.mem_map.2 ⟨q, List.mem_of_getElem? hq, rfl⟩) l (List.mem_of_getElem? hi2)
    have hF : Fedable N (.slice ob l.length cb) l w := ⟨h8', .inl ⟨hby, fun k hk => by have := hbl k hk; omega⟩⟩
    exact ⟨h8', .inl ⟨hby.keep ht fun k hk hm => by have := hbl k hk; have := hS k hm; omega, fun k hk => by have := hbl k hk; omega⟩⟩
end
namespace FgL
theorem splitR_new (id : Nat) (v : Value) (l : List Nat) (w : World) (hid : id < 65536) (hb : BytesAt v l w) :
    Calls Try.prog 12 #[.int .u16 (id : Int), v] w fun e w' => ∃ o c, e = .returned (.tuple #[.slice o (Fg.splitL id l).length c, .int .i64 (Fg.splitE l)]) ∧ LsB w.heap.size w'.heap.size (.slice o (Fg.splitL id l).length c) (Fg.splitL id l) w' ∧ Turned [] w w' := by
  obtain ⟨oa, cap, rfl, hc, hr, _⟩ := hb
  refine (FgR.split_any id oa cap l w hid hr).mono ?_
  rintro e w' (⟨h0, rfl, rfl⟩ | ⟨h1, rfl, rfl⟩ | ⟨h2, v, rfl, hL, ht⟩)
  · exact ⟨none, 0, by rw [Fg.splitE_no h0, Fg.splitL_no (by omega)]; rfl, by rw [Fg.splitL_no (by omega)]; exact LsB.nil _ _ _, Turned.refl _ _⟩
  · exact ⟨none, 0, by rw [Fg.splitE_long h1, Fg.splitL_no (by omega)]; rfl, by rw [Fg.splitL_no (by omega)]; exact LsB.nil _ _ _, Turned.refl _ _⟩
  · have hB := hL.inB
    obtain ⟨o, c, Q, rfl, rest⟩ := _root_.id hB
    exact ⟨o, c, by rw [Fg.splitE_ok h2, Fg.splitL_ok h2], by rw [Fg.splitL_ok h2]; exact hB, ht⟩
end FgL
end Go.Proofs.Ytkjlbginggppaaa


/- Whatever is fed: the law's walk (FgL.feeds_any). -/
namespace Go.Proofs.Ytkjlbginggppaaa
open Go.RowKit
set_option linter.unusedVariables false
set_option linter.unusedSimpArgs false
/-- only blocks from A on have turned -/
def Later (A : Nat) (w u : World) : Prop := ∃ S, Turned S w u ∧ ∀ b ∈ S, A ≤ b
theorem Later.refl (A : Nat) (w : World) : Later A w w := ⟨[], Turned.refl _ _, by simp⟩
theorem Later.step {A : Nat} {w u u' : World} {S : List Nat} (h : Later A w u) (ht : Turned S u u') (hS : ∀ b ∈ S, A ≤ b) : Later A w u' := by
  obtain ⟨S0, h0, hS0⟩ := h
  refine ⟨S0 ++ S, (h0.mono (S' := S0 ++ S) fun k hk _ => List.mem_append_left _ hk).trans ht fun k hk _ => List.mem_append_right _ hk, fun b hb => ?_⟩
  rcases List.mem_append.1 hb with e | e
  · exact hS0 b e
  · exact hS b e
namespace FgL
theorem same_bytes (va vb : Value) (l : List Nat) (u : World) (hl : l.length ≤ 1000000000) (ha : BytesAt va l u) (hb : BytesAt vb l u) : Calls Try.prog 16 #[va, vb] u fun e u' => e = .returned (.bool true) ∧ Turned [] u u' := by
  obtain ⟨p1, e1, rfl, _, r1, _⟩ := ha
  obtain ⟨p2, e2, rfl, _, r2, _⟩ := hb
  refine (BtL.same_any p1 p2 e1 e2 _ _ u r1 r2 (by omega) (by omega)).mono ?_
  rintro e u' ⟨rfl, ht⟩
  exact ⟨by rw [decide_eq_true rfl], ht⟩
set_option maxRecDepth 20000 in
set_option maxHeartbeats 16000000 in
theorem feeds_any (oM : Option Addr) (nM cM : Nat) (Ms : List (Nat × Nat × Nat)) (oS : Option Addr) (nS cS : Nat) (Sc : List FOp) (w : World)
    (hM : RowOf 3 fmEnc oM Ms w) (hMl : Ms.length = nM) (hMo : ∀ m ∈ Ms, FmOk m) (hM63 : nM ≤ maxLen) (hS : FopsIn oS Sc w) (hSl : Sc.length = nS) (hS63 : nS ≤ maxLen) :
    Calls Try.prog 4 #[.slice oM nM cM, .slice oS nS cS] w fun e w' => e = .returned (.bool true) ∧ Turned [] w w' := by
  unfold maxLen at hM63 hS63
  go_enter Try.func4, Try.ntmps4
  have HT0 : Turned [] w w := Turned.refl _ _
  by_cases h10 : 10 < (nM : Int)
  · clear hM hMl hMo hS hSl
    go_wp2_with (go_at_call 9; (with_reducible refine (FgL.awake_any _).mono ?_); rintro e u0 ⟨rfl, HT1⟩; have HT0 := HT0.trans HT1 (by simp))
    go_ret
    exact ⟨rfl, HT0⟩
  · by_cases h100 : 100 < (nS : Int)
    · clear hM hMl hMo hS hSl
      go_wp2_with (go_at_call 9; (with_reducible refine (FgL.awake_any _).mono ?_); rintro e u0 ⟨rfl, HT1⟩; have HT0 := HT0.trans HT1 (by simp))
      go_ret
      exact ⟨rfl, HT0⟩
    · have HM : Hid (RowOf 3 fmEnc oM Ms w) := hM
      have HML : Hid (Ms.length = nM) := hMl
      have HMO : Hid (∀ m ∈ Ms, FmOk m) := hMo
      have HS : Hid (FopsIn oS Sc w) := hS
      have HSL : Hid (Sc.length = nS) := hSl
      clear hM hMl hMo hS hSl
      go_wp2_with (go_at_call 9; (with_reducible refine (FgL.awake_any _).mono ?_); rintro e u0 ⟨rfl, HT1⟩; have HT0 := HT0.trans HT1 (by simp); clear HT1)
      have HTW : Hid (Turned [] w u0) := HT0
      clear HT0
      go_loopw [5, 6, 7, 8] (fun v5 i p e wr => ∃ (k : Nat) (Q : List (List (List Nat) × Value)), k ≤ nM ∧ i = .int .i64 (k : Int) ∧ Parts u0.heap.size ((Ms.take k).map fmParts) Q v5 wr ∧ Turned [] u0 wr) (fun _ i _ _ _ => nM - (intOf i).toNat)
      case atStart => exact ⟨0, [], by omega, rfl, Parts.nil _ _, Turned.refl _ _⟩
      case round =>
        obtain ⟨k, Q, hk, rfl, hP, hT⟩ := hrel
        by_cases hlt : (k : Int) < (nM : Int)
        · obtain ⟨m, hm⟩ : ∃ m, Ms[k]? = some m := ⟨_, List.getElem?_eq_getElem (by rw [HML.out]; omega)⟩
          have hok := HMO.out m (List.mem_of_getElem? hm)
          obtain ⟨g, off, rfl, hg, hcell⟩ := (HM.out.turned (HTW.out.trans hT (by simp)) (by simp)) k m hm
          have HMM : Hid (Ms[k]? = some m) := hm
          have hcell : ∀ u, Turned [] wr u → u.cell? ⟨g, off + k * 3, none⟩ = some (.int .u16 (m.1 : Int)) ∧ u.cell? ⟨g, off + k * 3 + 1, none⟩ = some (.int .u16 (m.2.1 : Int)) ∧ u.cell? ⟨g, off + k * 3 + 2, none⟩ = some (.int .u8 (m.2.2 : Int)) := fun u hu =>
            ⟨(hu.cell (p := ⟨g, off + k * 3, none⟩) hg (by simp)).trans (hcell 0 _ rfl), (hu.cell (p := ⟨g, off + k * 3 + 1, none⟩) hg (by simp)).trans (hcell 1 _ rfl), (hu.cell (p := ⟨g, off + k * 3 + 2, none⟩) hg (by simp)).trans (hcell 2 _ rfl)⟩
          have hQl : Q.length = k := by have h1 := congrArg List.length hP.mp; simp at h1; have := HML.out; omega
          have b1 : Q.length + 1 ≤ maxLen := by unfold maxLen; omega
          have b2 : (Q.length + 1) * 24 ≤ 140737488355328 := by omega
          have kB : ∀ u, Calls Try.prog 11 #[.agg #[.int .u16 (m.1 : Int), .int .u16 (m.2.1 : Int), .int .u8 (m.2.2 : Int)]] u fun e u' => ∃ v, e = .returned v ∧ BytesAt v (Fg.msg m.2.1 m.2.2) u' ∧ Turned [] u u' := fun u => bytes_w m.1 m.2.1 m.2.2 hok.2.1 hok.2.2 u
          have kS : ∀ u v, BytesAt v (Fg.msg m.2.1 m.2.2) u → Calls Try.prog 12 #[.int .u16 (m.1 : Int), v] u fun e u' => ∃ o c, e = .returned (.tuple #[.slice o (fmParts m).length c, .int .i64 (Fg.splitE (Fg.msg m.2.1 m.2.2))]) ∧ LsB u.heap.size u'.heap.size (.slice o (fmParts m).length c) (fmParts m) u' ∧ Turned [] u u' := fun u v hv => splitR_new m.1 v (Fg.msg m.2.1 m.2.2) u hok.1 hv
          generalize Fg.splitE (Fg.msg m.2.1 m.2.2) = E at kS
          obtain ⟨X, hX⟩ : ∃ X, X = fmParts m := ⟨_, rfl⟩
          rw [← hX] at kS
          have HX : Hid ((Ms.take (k + 1)).map fmParts = (Ms.take k).map fmParts ++ [X]) := by
            show _ = _
            rw [List.take_add_one, HMM.out, hX, List.map_append]; rfl
          have HP : Hid (Parts u0.heap.size ((Ms.take k).map fmParts) Q u5 wr) := hP
          have HTT : Hid (Turned [] u0 wr) := hT
          obtain ⟨i0, i1, i2⟩ := m
          simp only at hcell kB kS
          clear hm hok hX hP hT hQl
          obtain ⟨c0, c1, c2⟩ := hcell _ (Turned.refl [] wr)
          go_wp2_with fail
          go_region_with (first
            | (go_at_call 11; (with_reducible refine (kB _).mono ?_); rintro e u1 ⟨v1, rfl, HB1, HT1⟩; have HTa : Turned [] wr u1 := (by first | exact (Turned.refl [] wr).trans HT1 (by simp) | exact (Turned.refl [] wr).drew.trans HT1 (by simp)); obtain ⟨d0, d1, d2⟩ := hcell _ HTa)
            | (go_at_call 12; (with_reducible refine (kS _ _ HB1).mono ?_); rintro e u2 ⟨o2, c2', rfl, HL1, HT2⟩; clear HB1 d0 d1 d2))
          all_goals
            clear hcell kB kS c0 c1 c2
            have HTb := HTa.trans HT2 (by simp)
            have hown := HP.out.ow.keep HTb (by simp)
            go_wp2_with (at_builtin; refine wp_push (v := u5) elem_ls rfl _ _ rfl rfl (hown.keep ((Turned.refl [] u2).alloc _) (by simp)) u2.heap.size 0 1 1 [(X, .slice o2 X.length c2')] rfl rfl plEnc_len (pl_one rfl) (one_cell rfl u2 _) b1 b2 ?_; intro v' w1 ho1 ht1 hb1)
            obtain ⟨hP1, hT1⟩ := HP.out.push HTT.out.size HTa HT2 HL1 ((Turned.refl [] u2).alloc _) ho1 ht1 hb1
            go_roundw
            case rel => exact ⟨k + 1, _, by omega, by go_num, by rw [HX.out]; exact hP1, HTT.out.trans hT1 (fun b hb hl => by have := HP.out.lo b hb; omega)⟩
            case measure => simp [intOf]; omega
        · have hkM : Ms.take k = Ms := List.take_of_length_le (by rw [HML.out]; omega)
          rw [hkM] at hP
          obtain ⟨Ls, hLs⟩ : ∃ L, L = Ms.map fmParts := ⟨_, rfl⟩
          rw [← hLs] at hP
          have hLl : Ls.length = nM := by rw [hLs, List.length_map, HML.out]
          have HL8 : Hid (∀ X ∈ Ls, (∀ y ∈ X, ∀ x ∈ y, x < 256) ∧ X.length ≤ 14) := fun X hX => by
            rw [hLs] at hX
            obtain ⟨m, hm, rfl⟩ := List.mem_map.1 hX
            exact ⟨fmParts_lt (HMO.out m hm), fmParts_len m⟩
          have hQl : Q.length = nM := by have h1 := congrArg List.length hP.mp; rw [List.length_map] at h1; omega
          obtain ⟨o5, c5, hv5, _, _⟩ := hP.ow.form
          rw [hQl] at hv5
          subst hv5
          have HPP : Hid (Parts u0.heap.size Ls Q (.slice o5 nM c5) wr) := hP
          have HLL : Hid (Ls.length = nM) := hLl
          have HTP : Hid (Turned [] w wr) := HTW.out.trans hT (by simp)
          have hB := Both.new wr 40 44 wr.heap.size (Nat.le_refl _)
          clear hkM hP hT hLs hLl hQl HM HMO HTW hk
          go_wp2_with fail
          obtain ⟨W2, hW2⟩ : ∃ W, W = (wr.alloc (.cells #[.slice none 0 0] 40)).alloc (.cells #[.slice none 0 0] 44) := ⟨_, rfl⟩
          have hT2 : Turned [] wr W2 := by rw [hW2]; exact ((Turned.refl [] wr).alloc _).alloc _
          rw [← hW2] at hB ⊢
          obtain ⟨A, hA⟩ : ∃ A, A = wr.heap.size := ⟨_, rfl⟩
          obtain ⟨R, hR⟩ : ∃ R, R = A + 1 := ⟨_, rfl⟩
          have HAw : Hid (w.heap.size ≤ A) := by show _ ≤ _; rw [hA]; exact HTP.out.size
          have HAr : Hid (A = wr.heap.size) := hA
          rw [← hA, ← hR] at hB
          first | rw [← hA, ← hR] | rw [← hA]
          have HW2 : Hid (∀ u, Later A W2 u → Later A wr u ∧ Turned [] w u) := fun u ⟨S, hu, hS⟩ => by
            have h1 : Turned S wr u := (hT2.mono (S' := S) (by simp)).trans hu fun k hk _ => hk
            exact ⟨⟨S, h1, hS⟩, HTP.out.trans h1 fun b hb hl => by have := hS b hb; have := HAw.out; omega⟩
          clear hW2 hA hR hT2 hlt
          generalize decide (10 < (nM : Int)) = z1
          generalize decide (100 < (nS : Int)) = z2
          go_loopw [11, 12, 13, 14, 15, 16, 17, 18, 19, 20] (fun i b k a x ok e y fine f wx => ∃ (t z : Nat) (M : List Fg.P), t ≤ nS ∧ i = .int .i64 (t : Int) ∧ Both A A R z t M M wx ∧ Later A W2 wx) (fun i _ _ _ _ _ _ _ _ _ _ => nS - (intOf i).toNat)
          case atStart => exact ⟨0, _, [], by omega, rfl, hB, Later.refl _ _⟩
          case round =>
            obtain ⟨t, z, M, ht, rfl, hB2, hLt⟩ := hrel
            clear hB
            obtain ⟨hTr, hTw⟩ := HW2.out _ hLt
            by_cases hlt : (t : Int) < (nS : Int)
            · obtain ⟨s, hs⟩ : ∃ s, Sc[t]? = some s := ⟨_, List.getElem?_eq_getElem (by rw [HSL.out]; omega)⟩
              have hfo := HS.out.each s (List.mem_of_getElem? hs)
              obtain ⟨g, off, rfl, hg, hcell⟩ := (HS.out.row.turned hTw (by simp)) t s hs
              obtain ⟨raw, ks, is, os, ls, cs⟩ := s
              have c0 := hcell 0 (.bool raw) rfl
              have c1 := hcell 1 (.int .i64 ks) rfl
              have c2 := hcell 2 (.int .i64 is) rfl
              have c3 := hcell 3 (.slice os ls.length cs) rfl
              rw [Nat.add_zero] at c0
              have hF := (hfo.fed HAw.out).keep hTw (by simp)
              have hkb := hfo.k
              have hib := hfo.i
              simp only at hF hkb hib
              obtain ⟨nl, hnl⟩ : ∃ n, n = ls.length := ⟨_, rfl⟩
              rw [← hnl] at c3 hF
              clear hcell hfo hs hnl
              have ht100 : (t : Int) < 100 := by omega
              by_cases h400 : 400 < (nl : Int)
              · have HT9 : Hid (Turned [] w wr) := hTw
                clear hTr hTw hB2 hLt hF hkb hib
                go_wp2_with fail
                go_quiet (fail)
                go_wp2_with fail
                go_ret
                exact ⟨rfl, HT9.out.trans (by first | exact turned_drewN _ _ | exact Turned.refl _ _) (by simp)⟩
              · go_wp2_with fail
                go_quiet (fail)
                have tV : Turned [] wr (wr.drewN nq) := turned_drewN _ _
                have e0 := (tV.cell (p := ⟨g, off + t * 4, none⟩) hg (by simp)).trans c0
                have hF3 := hF.keep tV (by simp)
                generalize wr.drewN nq = V at tV e0 hF3 ⊢
                clear c0 c1 c2 c3 hF
                cases raw
                · clear hF3
                  have hF3 : True := trivial
                  by_cases h1 : ks < 0
                  · have HLT : Hid (Later A W2 V) := hLt.step tV (by simp)
                    have HB3 : Hid (Both A A R z (t + 1) M M V) := (hB2.on tV).more (by omega)
                    clear hB2 hLt hTw hF3
                    go_wp2_with fail
                    go_roundw
                    case rel => exact ⟨t + 1, z, M, by omega, by go_num, HB3.out, HLT.out⟩
                    case measure => simp [intOf]; omega
                  · by_cases h2 : (nM : Int) ≤ ks
                    · have HLT : Hid (Later A W2 V) := hLt.step tV (by simp)
                      have HB3 : Hid (Both A A R z (t + 1) M M V) := (hB2.on tV).more (by omega)
                      clear hB2 hLt hTw hF3
                      go_wp2_with fail
                      go_roundw
                      case rel => exact ⟨t + 1, z, M, by omega, by go_num, HB3.out, HLT.out⟩
                      case measure => simp [intOf]; omega
                    · obtain ⟨kk, rfl⟩ : ∃ kk : Nat, ks = (kk : Int) := ⟨ks.toNat, by omega⟩
                      obtain ⟨X, hX⟩ : ∃ X, Ls[kk]? = some X := ⟨_, List.getElem?_eq_getElem (by rw [HLL.out]; omega)⟩
                      obtain ⟨S0, hS0, hS1⟩ := (hTr.step tV (by simp))
                      obtain ⟨g5, c5', oX, cX, hv5, hg5, hc5, hlook⟩ := HPP.out.look (N := A) (by rw [HAr.out]; exact Nat.le_refl _) (fun Y hY => (HL8.out Y hY).1) hS0 (fun b hb => by have h1 := hS1 b hb; have h2 := HAr.out; omega) hX
                      have ho5 : o5 = some ⟨g5, 0, none⟩ := by injection hv5
                      subst ho5
                      have hX14 : X.length ≤ 14 := (HL8.out X (List.mem_of_getElem? hX)).2
                      obtain ⟨nX, hnX⟩ : ∃ n, n = X.length := ⟨_, rfl⟩
                      rw [← hnX] at hc5
                      have HNX : Hid (nX = X.length) := hnX
                      clear hv5 hX hX14 hnX hS0 hS1 hTr
                      by_cases h3 : is < 0
                      · have HLT : Hid (Later A W2 V) := hLt.step tV (by simp)
                        have HB3 : Hid (Both A A R z (t + 1) M M V) := (hB2.on tV).more (by omega)
                        clear hB2 hLt hTw hF3
                        go_wp2_with fail
                        go_roundw
                        case rel => exact ⟨t + 1, z, M, by omega, by go_num, HB3.out, HLT.out⟩
                        case measure => simp [intOf]; omega
                      · by_cases h4 : (nX : Int) ≤ is
                        · have HLT : Hid (Later A W2 V) := hLt.step tV (by simp)
                          have HB3 : Hid (Both A A R z (t + 1) M M V) := (hB2.on tV).more (by omega)
                          clear hB2 hLt hTw hF3
                          go_wp2_with fail
                          go_roundw
                          case rel => exact ⟨t + 1, z, M, by omega, by go_num, HB3.out, HLT.out⟩
                          case measure => simp [intOf]; omega
                        · obtain ⟨ii, rfl⟩ : ∃ ii : Nat, is = (ii : Int) := ⟨is.toNat, by omega⟩
                          obtain ⟨ll, hll⟩ : ∃ l, X[ii]? = some l := ⟨_, List.getElem?_eq_getElem (by rw [← HNX.out]; omega)⟩
                          obtain ⟨g6, o6, ob, cb, rfl, hg6, hc6, hF6⟩ := hlook ii ll hll
                          have hF3 := hF6
                          obtain ⟨nb, hnb⟩ : ∃ n, n = ll.length := ⟨_, rfl⟩
                          rw [← hnb] at hc6 hF3
                          clear hlook hll hF6 hnb hkb hib
                          have hzV : z ≤ V.heap.size := (hB2.on tV).zle.1
                          obtain ⟨rb, rok, re, rl, hr⟩ : ∃ rb rok re rl, Fg.feedB M ll = ⟨rb, rok, re, rl⟩ := ⟨_, _, _, _, rfl⟩
                          have HRR : Hid (Fg.feedB M ll = ⟨rb, rok, re, rl⟩) := hr
                          have k1 := two_feed (hB2.on tV) hF3
                          rw [hr] at k1
                          simp only at k1
                          have kR : ∀ u, Both A A R z t rl M u → Fedable A (.slice ob nb cb) ll u → Calls Try.prog 15 #[.pointer (some ⟨R, 0, none⟩), .slice ob nb cb] u fun e w' => ∃ va S, e = .returned (.tuple #[va, .bool rok, .int .i64 re]) ∧ BytesAt va rb w' ∧ rb.length ≤ 1000000000 ∧ Both A A R w'.heap.size (t + 1) rl rl w' ∧ Turned S u w' ∧ ∀ k ∈ S, A ≤ k ∧ k < z := fun u hb hf => by
                            have h := two_feedR hb (by omega) hf
                            rw [HRR.out] at h
                            exact h
                          have HLT : Hid (Later A W2 V) := hLt.step tV (by simp)
                          clear hr hB2 hLt hTw
                          cases rok
                          all_goals
                            go_wp2_with (first
                              | (go_at_call 14; (with_reducible refine k1.mono ?_); rintro e u1 ⟨va, rfl, hva, hvn, hB4, HT4⟩; have hF4 := hF3.keep HT4 (fun k hk => by simp at hk; omega))
                              | (go_at_call 15; (with_reducible refine (kR _ hB4 hF4).mono ?_); rintro e u2 ⟨vb, S5, rfl, hvb, hrl, hB5, HT5, hS5⟩; have hva5 := hva.keep HT5 (fun k hk hm => by have h1 := hvn k hk; have h2 := (hS5 k hm).2; omega))
                              | (go_at_call 16; (with_reducible refine (same_bytes _ _ rb _ hrl hva5 hvb).mono ?_); rintro e u3 ⟨rfl, HT6⟩; have hB6 := hB5.on HT6)
                              | (go_at_call 17; (with_reducible refine (two_waits hB6).mono ?_); rintro e u4 ⟨rfl, HT7⟩; have hB7 := hB6.on HT7)
                              | (go_at_call 18; (with_reducible refine (two_waitsR hB7 (by omega)).mono ?_); rintro e u5 ⟨rfl, HT8⟩; have hB8 := hB7.on HT8))
                            have hL5 := ((((HLT.out.step HT4 (by simp)).step HT5 (fun b hb => (hS5 b hb).1)).step HT6 (by simp)).step HT7 (by simp)).step HT8 (by simp)
                            go_roundw
                            case rel => exact ⟨t + 1, _, rl, by omega, by go_num, hB8, hL5⟩
                            case measure => simp [intOf]; omega
                · clear hTr hkb hib
                  have hzV : z ≤ V.heap.size := (hB2.on tV).zle.1
                  obtain ⟨rb, rok, re, rl, hr⟩ : ∃ rb rok re rl, Fg.feedB M ls = ⟨rb, rok, re, rl⟩ := ⟨_, _, _, _, rfl⟩
                  have HRR : Hid (Fg.feedB M ls = ⟨rb, rok, re, rl⟩) := hr
                  have k1 := two_feed (hB2.on tV) hF3
                  rw [hr] at k1
                  simp only at k1
                  have kR : ∀ u, Both A A R z t rl M u → Fedable A (.slice os nl cs) ls u → Calls Try.prog 15 #[.pointer (some ⟨R, 0, none⟩), .slice os nl cs] u fun e w' => ∃ va S, e = .returned (.tuple #[va, .bool rok, .int .i64 re]) ∧ BytesAt va rb w' ∧ rb.length ≤ 1000000000 ∧ Both A A R w'.heap.size (t + 1) rl rl w' ∧ Turned S u w' ∧ ∀ k ∈ S, A ≤ k ∧ k < z := fun u hb hf => by
                    have h := two_feedR hb (by omega) hf
                    rw [HRR.out] at h
                    exact h
                  have HLT : Hid (Later A W2 V) := hLt.step tV (by simp)
                  clear hr hB2 hLt hTw
                  cases rok
                  all_goals
                    go_wp2_with (first
                      | (go_at_call 14; (with_reducible refine k1.mono ?_); rintro e u1 ⟨va, rfl, hva, hvn, hB4, HT4⟩; have hF4 := hF3.keep HT4 (fun k hk => by simp at hk; omega))
                      | (go_at_call 15; (with_reducible refine (kR _ hB4 hF4).mono ?_); rintro e u2 ⟨vb, S5, rfl, hvb, hrl, hB5, HT5, hS5⟩; have hva5 := hva.keep HT5 (fun k hk hm => by have h1 := hvn k hk; have h2 := (hS5 k hm).2; omega))
                      | (go_at_call 16; (with_reducible refine (same_bytes _ _ rb _ hrl hva5 hvb).mono ?_); rintro e u3 ⟨rfl, HT6⟩; have hB6 := hB5.on HT6)
                      | (go_at_call 17; (with_reducible refine (two_waits hB6).mono ?_); rintro e u4 ⟨rfl, HT7⟩; have hB7 := hB6.on HT7)
                      | (go_at_call 18; (with_reducible refine (two_waitsR hB7 (by omega)).mono ?_); rintro e u5 ⟨rfl, HT8⟩; have hB8 := hB7.on HT8))
                    have hL5 := ((((HLT.out.step HT4 (by simp)).step HT5 (fun b hb => (hS5 b hb).1)).step HT6 (by simp)).step HT7 (by simp)).step HT8 (by simp)
                    go_roundw
                    case rel => exact ⟨t + 1, _, rl, by omega, by go_num, hB8, hL5⟩
                    case measure => simp [intOf]; omega
            · have HT9 : Hid (Turned [] w wr) := hTw
              clear hTr hTw hB2 hLt
              go_wp2_with fail
              go_ret
              exact ⟨rfl, HT9.out⟩
end FgL
end Go.Proofs.Ytkjlbginggppaaa
