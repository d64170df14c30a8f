/- Middles of tiles, whether a place is one to come in, whether two maps are the same: the reference's (TiR). -/
import Derived.Test.YtbfffgnalopfbaaTilMem
namespace Go.Proofs.Ytbfffgnalopfbaa
open Go.RowKit
set_option linter.unusedVariables false
set_option linter.unusedSimpArgs false

abbrev vecVal (p : Int × Int) : Value := .agg #[.int .i64 p.1, .int .i64 p.2]
theorem tv_eql (ax ay bx b_y : Int) (w : World) : (binOp .eql 28 (.agg #[.int .i64 ax, .int .i64 ay]) (.agg #[.int .i64 bx, .int .i64 b_y])).run Try.prog w = .ok (.bool ((ax == bx) && (ay == b_y))) w := by
  rw [run_eql_struct, run_equalIn_agg (d := 9999) (ht := by kernel_rfl) (hp := by kernel_rfl)]
  simp [go_sem]
  by_cases h : ax = bx <;> by_cases h' : ay = b_y <;> simp [h, h']
theorem tv_neq (ax ay bx b_y : Int) (w : World) : (binOp .neq 28 (.agg #[.int .i64 ax, .int .i64 ay]) (.agg #[.int .i64 bx, .int .i64 b_y])).run Try.prog w = .ok (.bool (!((ax == bx) && (ay == b_y)))) w := by
  rw [run_neq_struct, run_equalIn_agg (d := 9999) (ht := by kernel_rfl) (hp := by kernel_rfl)]
  simp [go_sem]
  by_cases h : ax = bx <;> by_cases h' : ay = b_y <;> simp [h, h']
theorem tv_is (p q : Int × Int) : ((p.1 == q.1) && (p.2 == q.2)) = decide (p = q) := by
  obtain ⟨a, b⟩ := p
  obtain ⟨c, d⟩ := q
  rw [Bool.eq_iff_iff]
  simp
namespace TiR
set_option maxHeartbeats 400000 in
theorem middle_any (x y : Nat) (hx : (x : Int) ≤ 1000) (hy : (y : Int) ≤ 1000) (w : World) :
    Calls Try.prog 81 #[.int .i64 (x : Int), .int .i64 (y : Int)] w fun e w' => e = .returned (vecVal (Ti.mid x y)) ∧ Turned [] w w' := by
  have HT : ∀ o, Turned [] w (w.alloc o) := fun o => (Turned.refl [] w).alloc o
  go_enter Try.func81, Try.ntmps81
  go_wp2
  exact bodyPost_ret (v := vecVal (Ti.mid x y)) (by simp [results, Try.results81, go_sem, Ti.mid]) rfl ⟨rfl, HT _⟩

set_option maxHeartbeats 1000000 in
theorem spawns_any (m : Ti.M) (oa : Option Addr) (ca : Nat) (ob : Option Addr) (cb : Nat) (p : Int × Int) (w : World) (h : MapAt m oa ob w) :
    Calls Try.prog 80 #[mapVal m oa ca ob cb, vecVal p] w fun e w' => e = .returned (.bool (decide (p ∈ m.sp))) ∧ Turned [] w w' := by
  have he := tv_eql
  have hls := h.ls
  go_enter Try.func80, Try.ntmps80
  go_wp2_with fail
  obtain ⟨W0, hW0⟩ : ∃ W0, W0 = (w.alloc (.cells (mapEnc m oa ca ob cb).toArray 35)).alloc (.cells #[.int .i64 p.1, .int .i64 p.2] 28) := ⟨_, rfl⟩
  obtain ⟨B, hB⟩ : ∃ B, B = w.heap.size := ⟨_, rfl⟩
  obtain ⟨C, hC⟩ : ∃ C, C = w.heap.size + 1 := ⟨_, rfl⟩
  obtain ⟨n, hn⟩ : ∃ n, n = m.sp.length := ⟨_, rfl⟩
  have hT : Turned [] w W0 := by rw [hW0]; exact ((Turned.refl [] w).alloc _).alloc _
  have hS : Struct B (mapEnc m oa ca ob cb) W0 := by rw [hW0, hB]; exact (Struct.new w (mapEnc m oa ca ob cb) _).keep ((Turned.refl [] _).alloc _) (by simp)
  have hP : Struct C [.int .i64 p.1, .int .i64 p.2] W0 := by
    have := Struct.new (w.alloc (.cells (mapEnc m oa ca ob cb).toArray 35)) [.int .i64 p.1, .int .i64 p.2] 28
    rw [show (w.alloc (.cells (mapEnc m oa ca ob cb).toArray 35)).heap.size = w.heap.size + 1 by simp, ← hC] at this
    rw [hW0]; exact this
  unfold mapEnc at hW0
  rw [← hW0, ← hC, ← hB]
  unfold mapEnc at hS
  rw [← hn] at hS hls
  have HN : Hid (n = m.sp.length) := hn
  clear hW0 hB hC hn
  go_loopw [5] (fun i wr => ∃ k : Nat, k ≤ n ∧ i = .int .i64 (k : Int) ∧ (∀ j q, j < k → m.sp[j]? = some q → ¬ q = p) ∧ Turned [] W0 wr) (fun i _ => n - (intOf i).toNat)
  case atStart => exact ⟨0, by omega, rfl, fun j q h1 _ => absurd h1 (by omega), Turned.refl _ _⟩
  case round =>
    obtain ⟨k, hk, rfl, hno, hT2⟩ := hrel
    have d3 := ((hS.keep hT2 (by simp)).2 3 _ rfl).1
    have p0 := ((hP.keep hT2 (by simp)).2 0 _ rfl).1
    have p1 := ((hP.keep hT2 (by simp)).2 1 _ rfl).1
    have HNO : Hid (∀ j q, j < k → m.sp[j]? = some q → ¬ q = p) := hno
    clear hno
    by_cases hlt : (k : Int) < (n : Int)
    · obtain ⟨q, hq⟩ : ∃ q, m.sp[k]? = some q := ⟨_, List.getElem?_eq_getElem (by have := HN.out; omega)⟩
      obtain ⟨g, off, rfl, hg, q0, q1⟩ := place_at ((h.sp.turned hT (by simp)).turned hT2 (by simp)) hq
      have hv := tv_is q p
      by_cases hqp : q = p
      · have hv' : ((q.1 == p.1) && (q.2 == p.2)) = true := by rw [hv]; simpa using hqp
        have HM : Hid (decide (p ∈ m.sp) = true) := by show _ = _; simp only [decide_eq_true_eq]; rw [← hqp]; exact List.mem_of_getElem? hq
        clear hv hq hqp
        go_wp2_with fail
        go_region
        go_wp2_with fail
        all_goals
          go_ret
          exact ti_bool HM.out.symm (hT.trans hT2.drew (by simp))
      · have hv' : ((q.1 == p.1) && (q.2 == p.2)) = false := by rw [hv]; simpa using hqp
        have HM : Hid (∀ j q, j < k + 1 → m.sp[j]? = some q → ¬ q = p) := by
          intro j q' hj hq'
          by_cases e : j = k
          · subst e; rw [hq] at hq'; simp at hq'; subst hq'; exact hqp
          · exact HNO.out j q' (by omega) hq'
        clear hv hq hqp
        go_wp2_with fail
        go_region
        go_wp2_with fail
        all_goals
          go_roundw
          case rel => exact ⟨k + 1, by omega, by go_num, HM.out, hT2.drew⟩
          case measure => simp [intOf]; omega
    · have HM : Hid (decide (p ∈ m.sp) = false) := by
        show _ = _
        simp only [decide_eq_false_iff_not]
        intro hm
        obtain ⟨j, hj, e⟩ := List.getElem_of_mem hm
        exact HNO.out j p (by have := HN.out; omega) (by rw [List.getElem?_eq_getElem hj, e]) rfl
      go_wp2_with fail
      go_ret
      exact ti_bool HM.out.symm (hT.trans hT2 (by simp))

/-- whether two maps are the same -/
def sameB (a b : Ti.M) : Bool := decide (a.W = b.W) && decide (a.H = b.H) && decide (a.ws = b.ws) && decide (a.sp = b.sp)
theorem sameB_iff {a b : Ti.M} : sameB a b = true ↔ a = b := by
  obtain ⟨a1, a2, a3, a4⟩ := a
  obtain ⟨b1, b2, b3, b4⟩ := b
  simp [sameB, and_assoc]
theorem sameB_not {a b : Ti.M} (h : ¬ a = b) : sameB a b = false := by
  cases hs : sameB a b with
  | false => rfl
  | true => exact absurd (sameB_iff.1 hs) h

set_option maxHeartbeats 4000000 in
theorem same_any (a b : Ti.M) (oa ob pa pb : Option Addr) (ca cb da db : Nat) (w : World) (ha : MapAt a oa ob w) (hb : MapAt b pa pb w) :
    Calls Try.prog 83 #[mapVal a oa ca ob cb, mapVal b pa da pb db] w fun e w' => e = .returned (.bool (sameB a b)) ∧ Turned [] w w' := by
  have he := tv_neq
  have hla := ha.lw
  have hlb := hb.lw
  have hsa := ha.ls
  have hsb := hb.ls
  obtain ⟨n1, hn1⟩ : ∃ n, n = a.ws.length := ⟨_, rfl⟩
  obtain ⟨n2, hn2⟩ : ∃ n, n = b.ws.length := ⟨_, rfl⟩
  obtain ⟨n3, hn3⟩ : ∃ n, n = a.sp.length := ⟨_, rfl⟩
  obtain ⟨n4, hn4⟩ : ∃ n, n = b.sp.length := ⟨_, rfl⟩
  have HN1 : Hid (n1 = a.ws.length) := hn1
  have HN2 : Hid (n2 = b.ws.length) := hn2
  have HN3 : Hid (n3 = a.sp.length) := hn3
  have HN4 : Hid (n4 = b.sp.length) := hn4
  unfold mapVal
  rw [← hn1] at hla ⊢
  rw [← hn2] at hlb ⊢
  rw [← hn3] at hsa ⊢
  rw [← hn4] at hsb ⊢
  have HT : Turned [] w ((w.alloc (.cells #[.int .i64 a.W, .int .i64 a.H, .slice oa n1 ca, .slice ob n3 cb] 35)).alloc (.cells #[.int .i64 b.W, .int .i64 b.H, .slice pa n2 da, .slice pb n4 db] 35)) := ((Turned.refl [] w).alloc _).alloc _
  by_cases hW : a.W = b.W
  · by_cases hH : a.H = b.H
    · by_cases h12 : n1 = n2
      · by_cases h34 : n3 = n4
        · have i1 : (a.W != b.W) = false := by rw [bne_eq_false_iff_eq]; exact hW
          have i2 : (a.H != b.H) = false := by rw [bne_eq_false_iff_eq]; exact hH
          have i3 : ((n1 : Int) != (n2 : Int)) = false := by rw [bne_eq_false_iff_eq]; omega
          have i4 : ((n3 : Int) != (n4 : Int)) = false := by rw [bne_eq_false_iff_eq]; omega
          have HW : Hid (a.W = b.W ∧ a.H = b.H ∧ n1 = n2 ∧ n3 = n4) := ⟨hW, hH, h12, h34⟩
          clear hn1 hn2 hn3 hn4 hW hH h12 h34
          go_enter Try.func83, Try.ntmps83
          go_wp2_with fail
          obtain ⟨W0, hW0⟩ : ∃ W0, W0 = (w.alloc (.cells #[.int .i64 a.W, .int .i64 a.H, .slice oa n1 ca, .slice ob n3 cb] 35)).alloc (.cells #[.int .i64 b.W, .int .i64 b.H, .slice pa n2 da, .slice pb n4 db] 35) := ⟨_, rfl⟩
          obtain ⟨B, hB⟩ : ∃ B, B = w.heap.size := ⟨_, rfl⟩
          obtain ⟨C, hC⟩ : ∃ C, C = w.heap.size + 1 := ⟨_, rfl⟩
          have hS : Struct B [.int .i64 a.W, .int .i64 a.H, .slice oa n1 ca, .slice ob n3 cb] W0 := by rw [hW0, hB]; exact (Struct.new w _ _).keep ((Turned.refl [] _).alloc _) (by simp)
          have hP : Struct C [.int .i64 b.W, .int .i64 b.H, .slice pa n2 da, .slice pb n4 db] W0 := by
            have := Struct.new (w.alloc (.cells #[.int .i64 a.W, .int .i64 a.H, .slice oa n1 ca, .slice ob n3 cb] 35)) [.int .i64 b.W, .int .i64 b.H, .slice pa n2 da, .slice pb n4 db] 35
            rw [show (w.alloc (.cells #[.int .i64 a.W, .int .i64 a.H, .slice oa n1 ca, .slice ob n3 cb] 35)).heap.size = w.heap.size + 1 by simp, ← hC] at this
            rw [hW0]; exact this
          rw [← hW0] at HT ⊢
          rw [← hC, ← hB]
          have ha0 := ha.calm HT
          have hb0 := hb.calm HT
          clear hW0 hB hC ha hb
          go_loopw [5] (fun i wr => ∃ k : Nat, k ≤ n1 ∧ i = .int .i64 (k : Int) ∧ a.ws.take k = b.ws.take k ∧ Turned [] W0 wr) (fun i _ => n1 - (intOf i).toNat)
          case atStart => exact ⟨0, by omega, rfl, by simp, Turned.refl _ _⟩
          case round =>
            obtain ⟨k, hk, rfl, htk, hT2⟩ := hrel
            have d2 := ((hS.keep hT2 (by simp)).2 2 _ rfl).1
            have e2 := ((hP.keep hT2 (by simp)).2 2 _ rfl).1
            by_cases hlt : (k : Int) < (n1 : Int)
            · obtain ⟨x, hx⟩ : ∃ q, a.ws[k]? = some q := ⟨_, List.getElem?_eq_getElem (by have := HN1.out; omega)⟩
              obtain ⟨y, hy⟩ : ∃ q, b.ws[k]? = some q := ⟨_, List.getElem?_eq_getElem (by have := HN2.out; have := HW.out; omega)⟩
              obtain ⟨g, off, rfl, hg, q0⟩ := wall_at (ha0.ws.turned hT2 (by simp)) hx
              obtain ⟨g', off', rfl, hg', q0'⟩ := wall_at (hb0.ws.turned hT2 (by simp)) hy
              have hk2 : (k : Int) < (n2 : Int) := by have := HW.out; omega
              by_cases hxy : x = y
              · subst hxy
                have HTK : Hid (a.ws.take (k + 1) = b.ws.take (k + 1)) := by
                  show _ = _
                  rw [List.take_add_one, List.take_add_one, htk, hx, hy]
                have hne : (x != x) = false := by simp
                clear htk hx hy
                go_wp2_with fail
                go_region
                go_wp2_with fail
                all_goals
                  go_roundw
                  case rel => exact ⟨k + 1, by omega, by go_num, HTK.out, hT2.drew⟩
                  case measure => simp [intOf]; omega
              · have hne : (!(x == y)) = true := by simpa using hxy
                have HF : Hid (sameB a b = false) := sameB_not (by
                  intro e
                  subst e
                  rw [hx] at hy
                  simp at hy
                  exact hxy hy)
                clear htk hx hy hxy
                go_wp2_with fail
                go_region
                go_wp2_with fail
                all_goals
                  go_ret
                  exact ti_bool HF.out.symm (HT.trans hT2.drew (by simp))
            · have HWS : Hid (a.ws = b.ws) := by
                have h1 := HN1.out
                have h2 := HN2.out
                have h3 := HW.out.2.2.1
                have hk1 : k = n1 := by omega
                rw [hk1, List.take_of_length_le (by omega), List.take_of_length_le (by omega)] at htk
                exact htk
              clear htk
              go_wp2_with fail
              go_loopw [6] (fun i wq => ∃ k : Nat, k ≤ n3 ∧ i = .int .i64 (k : Int) ∧ a.sp.take k = b.sp.take k ∧ Turned [] W0 wq) (fun i _ => n3 - (intOf i).toNat)
              case atStart => exact ⟨0, by omega, rfl, by simp, hT2⟩
              case round =>
                clear d2 e2
                obtain ⟨j, hj, rfl, htk, hT3⟩ := hrel
                have d3 := ((hS.keep hT3 (by simp)).2 3 _ rfl).1
                have e3 := ((hP.keep hT3 (by simp)).2 3 _ rfl).1
                by_cases hlt3 : (j : Int) < (n3 : Int)
                · obtain ⟨x, hx⟩ : ∃ q, a.sp[j]? = some q := ⟨_, List.getElem?_eq_getElem (by have := HN3.out; omega)⟩
                  obtain ⟨y, hy⟩ : ∃ q, b.sp[j]? = some q := ⟨_, List.getElem?_eq_getElem (by have := HN4.out; have := HW.out; omega)⟩
                  obtain ⟨g, off, rfl, hg, q0, q1⟩ := place_at (ha0.sp.turned hT3 (by simp)) hx
                  obtain ⟨g', off', rfl, hg', q0', q1'⟩ := place_at (hb0.sp.turned hT3 (by simp)) hy
                  have hk2 : (j : Int) < (n4 : Int) := by have := HW.out; omega
                  have hv := tv_is x y
                  by_cases hxy : x = y
                  · have hv' : ((x.1 == y.1) && (x.2 == y.2)) = true := by rw [hv]; simpa using hxy
                    have HTK : Hid (a.sp.take (j + 1) = b.sp.take (j + 1)) := by
                      show _ = _
                      rw [List.take_add_one, List.take_add_one, htk, hx, hy, hxy]
                    clear htk hx hy hv hxy
                    go_wp2_with fail
                    go_region
                    go_wp2_with fail
                    all_goals
                      go_roundw
                      case rel => exact ⟨j + 1, by omega, by go_num, HTK.out, hT3.drew⟩
                      case measure => simp [intOf]; omega
                  · have hv' : ((x.1 == y.1) && (x.2 == y.2)) = false := by rw [hv]; simpa using hxy
                    have HF : Hid (sameB a b = false) := sameB_not (by
                      intro e
                      subst e
                      rw [hx] at hy
                      simp at hy
                      exact hxy hy)
                    clear htk hx hy hxy hv
                    go_wp2_with fail
                    go_region
                    go_wp2_with fail
                    all_goals
                      go_ret
                      exact ti_bool HF.out.symm (HT.trans hT3.drew (by simp))
                · have HF : Hid (sameB a b = true) := sameB_iff.2 (by
                    have h1 := HN3.out
                    have h2 := HN4.out
                    have h3 := HW.out
                    have hk1 : j = n3 := by omega
                    rw [hk1, List.take_of_length_le (by omega), List.take_of_length_le (by omega)] at htk
                    have h4 := HWS.out
                    obtain ⟨a1, a2, a3, a4⟩ := a
                    obtain ⟨b1, b2, b3, b4⟩ := b
                    simp only [Ti.M.mk.injEq]
                    exact ⟨h3.1, h3.2.1, h4, htk⟩)
                  clear htk
                  go_wp2_with fail
                  go_ret
                  exact ti_bool HF.out.symm (HT.trans hT3 (by simp))
        · have i1 : (a.W != b.W) = false := by rw [bne_eq_false_iff_eq]; exact hW
          have i2 : (a.H != b.H) = false := by rw [bne_eq_false_iff_eq]; exact hH
          have i3 : ((n1 : Int) != (n2 : Int)) = false := by rw [bne_eq_false_iff_eq]; omega
          have i4 : ((n3 : Int) != (n4 : Int)) = true := by rw [bne_iff_ne]; omega
          have HF : Hid (sameB a b = false) := sameB_not (by intro e; subst e; omega)
          clear hn1 hn2 hn3 hn4 hW hH h12 h34
          go_enter Try.func83, Try.ntmps83
          go_wp2_with fail
          go_ret
          exact ti_bool HF.out.symm HT
      · have i1 : (a.W != b.W) = false := by rw [bne_eq_false_iff_eq]; exact hW
        have i2 : (a.H != b.H) = false := by rw [bne_eq_false_iff_eq]; exact hH
        have i3 : ((n1 : Int) != (n2 : Int)) = true := by rw [bne_iff_ne]; omega
        have HF : Hid (sameB a b = false) := sameB_not (by intro e; subst e; omega)
        clear hn1 hn2 hn3 hn4 hW hH h12
        go_enter Try.func83, Try.ntmps83
        go_wp2_with fail
        go_ret
        exact ti_bool HF.out.symm HT
    · have i1 : (a.W != b.W) = false := by rw [bne_eq_false_iff_eq]; exact hW
      have i2 : (a.H != b.H) = true := by rw [bne_iff_ne]; exact hH
      have HF : Hid (sameB a b = false) := sameB_not (by intro e; subst e; exact hH rfl)
      clear hn1 hn2 hn3 hn4 hW hH
      go_enter Try.func83, Try.ntmps83
      go_wp2_with fail
      go_ret
      exact ti_bool HF.out.symm HT
  · have i1 : (a.W != b.W) = true := by rw [bne_iff_ne]; exact hW
    have HF : Hid (sameB a b = false) := sameB_not (by intro e; subst e; exact hW rfl)
    clear hn1 hn2 hn3 hn4 hW
    go_enter Try.func83, Try.ntmps83
    go_wp2_with fail
    go_ret
    exact ti_bool HF.out.symm HT
end TiR
end Go.Proofs.Ytbfffgnalopfbaa
