/- A map's signs, and its text: the program's (TiW). -/
import Derived.Test.YtecjfenpdpdanaaTilWForm
import Derived.Laws.Cover4
namespace Go.Proofs.Ytecjfenpdpdanaa
open Go.RowKit
set_option linter.unusedVariables false
set_option linter.unusedSimpArgs false

abbrev rnEnc : Int → List Value := fun z => [(fun z => Value.int .i32 z) z]
theorem rnEnc_len {l : List Int} : ∀ a ∈ l, (rnEnc a).length = 1 := fun _ _ => rfl
theorem rnEnc_one {l : List Int} : ∀ a ∈ l, ∀ u ∈ rnEnc a, u.oneCell' = true := by
  intro a _ u hu
  simp [rnEnc] at hu
  subst hu
  rfl
theorem elem_rn : ElemOk Try.prog 62 21 (.int .i32 0) 1 4 := ⟨by kernel_rfl, by kernel_rfl, rfl, by decide⟩
namespace Ti
theorem encode_rn {k : Nat} (h : 0 < k ∧ k ≤ 3) : Utf8.encode (rn k) = str (bs k) := by
  have : k = 1 ∨ k = 2 ∨ k = 3 := by omega
  rcases this with rfl | rfl | rfl <;> decide
theorem bytes_rn : ∀ (c : List Nat) (r : ByteArray), (∀ k ∈ c, 0 < k ∧ k ≤ 3) → (c.map rn).foldl (fun r n => r ++ Utf8.encode n) r = r ++ str (flat c)
  | [], r, _ => by
    show r = r ++ str []
    rw [show str [] = ByteArray.empty from rfl, ByteArray.append_empty]
  | k :: c, r, h => by
    rw [List.map_cons, List.foldl_cons, bytes_rn c _ (fun x hx => h x (List.mem_cons_of_mem _ hx)), encode_rn (h k (by simp)), ByteArray.append_assoc, str_add, flat_cons]
theorem runes_line {c : List Nat} (h : ∀ k ∈ c, 0 < k ∧ k ≤ 3) : runesBytes (c.map rn) = str (flat c) := by
  unfold runesBytes
  rw [bytes_rn c _ h, ByteArray.empty_append]
theorem take_lines {α : Type} {w : Nat} : ∀ {L : List (List α)}, (∀ c ∈ L, c.length = w) → ∀ {y : Nat} {c : List α}, L[y]? = some c → (L.flatten.drop (y * w)).take w = c
  | [], _, y, c, h => by simp at h
  | d :: L, hl, y, c, h => by
    have hd := hl d (by simp)
    cases y with
    | zero =>
      simp at h
      subst h
      rw [List.flatten_cons, Nat.zero_mul, List.drop_zero, List.take_append_of_le_length (by omega), List.take_of_length_le (by omega)]
    | succ y =>
      rw [List.flatten_cons, Nat.add_mul, Nat.one_mul, Nat.add_comm, List.drop_append, List.drop_eq_nil_of_le (by omega), List.nil_append, hd, Nat.add_sub_cancel_left]
      exact take_lines (fun c hc => hl c (List.mem_cons_of_mem _ hc)) (by simpa using h)
theorem tx_full {m : M} {y : Nat} (hy : y < m.H.toNat) : tx m y 0 ++ (flat (lineOf m y) ++ [10]) = tx m (y + 1) 0 := by
  rw [tx_line hy rfl]
  unfold tx
  rw [List.take_zero, List.take_of_length_le (l := lineOf m y) (by rw [line_len]; omega)]
  simp [flat]
theorem base_next {m : M} {k : Nat} {b : Bool} (h : m.ws[k]? = some b) : (base m).take (k + 1) = (base m).take k ++ [if b then 9608 else 183] := by
  rw [List.take_add_one]
  unfold base
  rw [List.getElem?_map, h]
  rfl
theorem base_len (m : M) : (base m).length = m.ws.length := by simp [base]
theorem marks_step {m : M} {k : Nat} {p : Int × Int} (h : m.sp[k]? = some p) : marks m (m.sp.take (k + 1)) = mark m (marks m (m.sp.take k)) p := by
  rw [List.take_add_one, h]
  exact marks_next m _ p
end Ti

namespace TiW
/-- behind an append its block is new, or the elder one -/
theorem pushed_new {w0 wr : World} {o : Obj} {v v' : Value} (hN : ∀ x ∈ blk v, w0.heap.size ≤ x) (hT : Turned [] w0 wr) (hb : blk v' = blk v ∨ blk v' = [(wr.alloc o).heap.size]) : ∀ x ∈ blk v', w0.heap.size ≤ x := by
  intro x hx
  rcases hb with e | e
  · rw [e] at hx; exact hN x hx
  · rw [e] at hx
    simp at hx
    have := hT.size
    omega
theorem fresh_cell {g n c : Nat} {l : List Int} {w : World} (h : OwnL 21 1 rnEnc (.slice (some ⟨g, 0, none⟩) n c) l w) {i : Nat} {z : Int} (hz : l[i]? = some z) : w.cell? ⟨g, i, none⟩ = some (.int .i32 z) ∧ w.frozen? ⟨g, i, none⟩ = false := by
  obtain ⟨g', c', hv, _, _, hc⟩ := h.cell rnEnc_len hz
  simp at hv
  obtain ⟨rfl, _, _⟩ := hv
  have := hc 0 _ rfl
  rwa [Nat.mul_one, Nat.add_zero] at this
theorem pushed_turned {w0 wr w1 : World} {o : Obj} {v : Value} (hT : Turned [] w0 wr) (hN : ∀ x ∈ blk v, w0.heap.size ≤ x) (ht : Turned (blk v) (wr.alloc o) w1) : Turned [] w0 w1 :=
  (hT.alloc o).trans ht (fun k hk hl => by have := hN k hk; omega)
set_option maxRecDepth 20000 in
set_option maxHeartbeats 8000000 in
theorem signs_any (m : Ti.M) (oa : Option Addr) (ca : Nat) (ob : Option Addr) (cb : Nat) (w : World) (h : MapAt m oa ob w) (hF : Ti.Formed m) :
    Calls Try.prog 27 #[mapVal m oa ca ob cb] w fun e w' => ∃ v, e = .returned v ∧ OwnL 21 1 rnEnc v (Ti.marks m m.sp) w' ∧ Turned [] w w' ∧ ∀ k ∈ blk v, w.heap.size ≤ k := by
  obtain ⟨hW1, hW2, hH1, hH2, hWH⟩ := hF.1
  have HF : Hid (Ti.Formed m) := hF
  obtain ⟨nw, hnw⟩ : ∃ n, n = m.ws.length := ⟨_, rfl⟩
  obtain ⟨ns, hns⟩ : ∃ n, n = m.sp.length := ⟨_, rfl⟩
  have kp := fun (p : Int × Int) (u : World) => placeOf_any m hW1 hW2 hH1 hH2 p oa nw ca ob ns cb u
  have hlw := h.lw
  have hls := h.ls
  obtain ⟨W0, hW0⟩ : ∃ W0, W0 = w.alloc (.cells #[.int .i64 m.W, .int .i64 m.H, .slice oa nw ca, .slice ob ns cb] 26) := ⟨_, rfl⟩
  obtain ⟨B, hB⟩ : ∃ B, B = w.heap.size := ⟨_, rfl⟩
  have hsz : W0.heap.size = B + 1 := by rw [hW0, hB]; simp
  have hBw : w.heap.size ≤ B := by omega
  have hT : Turned [] w W0 := by rw [hW0]; exact (Turned.refl [] w).alloc _
  have hS : Struct B [.int .i64 m.W, .int .i64 m.H, .slice oa nw ca, .slice ob ns cb] W0 := by rw [hW0, hB]; exact Struct.new w [.int .i64 m.W, .int .i64 m.H, .slice oa nw ca, .slice ob ns cb] _
  unfold mapVal
  rw [← hnw] at hlw
  rw [← hns] at hls
  rw [← hnw, ← hns]
  have HNW : Hid (nw = m.ws.length) := hnw
  have HNS : Hid (ns = m.sp.length) := hns
  have s2 := (hS.2 2 _ rfl).1
  clear hnw hns hWH hF
  go_enter Try.func27, Try.ntmps27
  go_wp2_with fail
  rw [← hW0, ← hB]
  clear hW0 hB
  go_loopw [3, 14] (fun sv i wr => ∃ k : Nat, k ≤ nw ∧ i = .int .i64 (k : Int) ∧ OwnL 21 1 rnEnc sv ((Ti.base m).take k) wr ∧ (∀ x ∈ blk sv, W0.heap.size ≤ x) ∧ Turned [] W0 wr) (fun _ i _ => nw - (intOf i).toNat)
  case atStart => exact ⟨0, by omega, rfl, by rw [List.take_zero]; exact OwnL.nil _ _ _ _, by simp [blk, Value.ownBlock], Turned.refl _ _⟩
  case round =>
    obtain ⟨k, hk, rfl, hO, hN, hT2⟩ := hrel
    have hlen : ((Ti.base m).take k).length = k := by rw [List.length_take, Ti.base_len, ← HNW.out]; omega
    by_cases hlt : (k : Int) < (nw : Int)
    · obtain ⟨b, hb⟩ : ∃ b, m.ws[k]? = some b := ⟨_, List.getElem?_eq_getElem (by have := HNW.out; omega)⟩
      obtain ⟨g, off, rfl, hg, q0⟩ := wall_at ((h.ws.turned hT (by simp)).turned hT2 (by simp)) hb
      have b1 : ((Ti.base m).take k).length + 1 ≤ maxLen := by rw [hlen]; unfold maxLen; omega
      have b2 : (((Ti.base m).take k).length + 1) * 4 ≤ 140737488355328 := by rw [hlen]; omega
      have HNX : Hid ((Ti.base m).take (k + 1) = (Ti.base m).take k ++ [if b then 9608 else 183]) := Ti.base_next hb
      clear hb
      cases b with
      | true =>
        go_wp2_with (at_builtin; refine wp_push elem_rn rfl _ _ rfl rfl (hO.keep ((Turned.refl [] wr).alloc _) (by simp)) wr.heap.size 0 1 1 [9608] rfl rfl rnEnc_len rnEnc_one (one_cell rfl wr _) b1 b2 ?_; intro v' w1 ho1 ht1 hb1)
        go_roundw
        case rel => exact ⟨k + 1, by omega, by go_num, by rw [HNX.out]; exact ho1, pushed_new hN hT2 hb1, pushed_turned hT2 hN ht1⟩
        case measure => simp [intOf]; omega
      | false =>
        go_wp2_with (at_builtin; refine wp_push elem_rn rfl _ _ rfl rfl (hO.keep ((Turned.refl [] wr).alloc _) (by simp)) wr.heap.size 0 1 1 [183] rfl rfl rnEnc_len rnEnc_one (one_cell rfl wr _) b1 b2 ?_; intro v' w1 ho1 ht1 hb1)
        go_roundw
        case rel => exact ⟨k + 1, by omega, by go_num, by rw [HNX.out]; exact ho1, pushed_new hN hT2 hb1, pushed_turned hT2 hN ht1⟩
        case measure => simp [intOf]; omega
    · have hkn : k = nw := by omega
      have hbl : (Ti.base m).take k = Ti.base m := List.take_of_length_le (by rw [Ti.base_len, ← HNW.out]; omega)
      rw [hbl] at hO
      have hnw1 : 0 < nw := by
        have h1 := HF.out.1
        have h2 := Ti.dims_ws h1 (x := 0) (y := 0) (by have := h1.1; omega) (by have := h1.2.2.1; omega)
        have := h2.1
        have := HNW.out
        omega
      have hml : ∀ ps, (Ti.marks m ps).length = nw := fun ps => by rw [Ti.marks_len, HNW.out]
      obtain ⟨g, cap, rfl, hbk, hg, _⟩ := hO.cell rnEnc_len (i := 0) (a := (Ti.base m)[0]'(by rw [Ti.base_len, ← HNW.out]; omega)) (List.getElem?_eq_getElem _)
      rw [show (Ti.base m).length = nw by rw [Ti.base_len, HNW.out]] at hO hN hbk ⊢
      have hgw : W0.heap.size ≤ g := hN g (by rw [hbk]; simp)
      have s3 := ((hS.keep hT2 (by simp)).2 3 _ rfl).1
      clear hN hbk hbl hlen hkn s2 hg
      go_wp2_with fail
      go_loopw [27] (fun i wq => ∃ k : Nat, k ≤ ns ∧ i = .int .i64 (k : Int) ∧ OwnL 21 1 rnEnc (.slice (some ⟨g, 0, none⟩) nw cap) (Ti.marks m (m.sp.take k)) wq ∧ Turned [] W0 wq) (fun i _ => ns - (intOf i).toNat)
      case atStart => exact ⟨0, by omega, rfl, hO, hT2⟩
      case round =>
        clear hT2 hO s3 hlt hk
        obtain ⟨k, hk, rfl, hO, hT2⟩ := hrel
        by_cases hlt : (k : Int) < (ns : Int)
        · obtain ⟨p, hp⟩ : ∃ p, m.sp[k]? = some p := ⟨_, List.getElem?_eq_getElem (by have := HNS.out; omega)⟩
          obtain ⟨g', off, rfl, hg', q0, q1⟩ := place_at ((h.sp.turned hT (by simp)).turned hT2 (by simp)) hp
          obtain ⟨i, hs, hin⟩ : ∃ i, Ti.spotOf m p = some i ∧ i < nw := by
            have hm := List.mem_of_getElem? hp
            rw [← HF.out.2.2] at hm
            obtain ⟨x, y, hx, hy, rfl, _, _⟩ := Ti.mem_lines.1 hm
            exact ⟨_, Ti.spot_mid hx hy, by have := (Ti.dims_ws HF.out.1 hx hy).1; have := HNW.out; omega⟩
          have kq := kp p
          rw [hs] at kq
          have HNX : Hid (Ti.marks m (m.sp.take (k + 1)) = (Ti.marks m (m.sp.take k)).set i 9678) := by
            show _ = _
            rw [Ti.marks_step hp]
            unfold Ti.mark
            rw [hs]
          have hii : (i : Int) < (nw : Int) := by omega
          have hS2 := hS.keep hT2 (by simp)
          have d0 := fun o => ((hS2.keep ((Turned.refl [] wr).alloc o) (by simp)).2 0 _ rfl).1
          have d1 := fun o => ((hS2.keep ((Turned.refl [] wr).alloc o) (by simp)).2 1 _ rfl).1
          have d2 := fun o => ((hS2.keep ((Turned.refl [] wr).alloc o) (by simp)).2 2 _ rfl).1
          have d3 := fun o => ((hS2.keep ((Turned.refl [] wr).alloc o) (by simp)).2 3 _ rfl).1
          obtain ⟨z, hz⟩ : ∃ z, (Ti.marks m (m.sp.take k))[i]? = some z := ⟨_, List.getElem?_eq_getElem (by rw [hml]; exact hin)⟩
          clear kp hp hs
          go_wp2_with (go_at_call 42; (with_reducible refine (kq _).mono ?_); rintro e u1 ⟨rfl, hT3⟩; have hO3 := hO.keep (((Turned.refl [] wr).alloc _).trans hT3 (by simp)) (by simp); have c3 := (fresh_cell hO3 hz).1; have f3 := (fresh_cell hO3 hz).2)
          have hO4 := OwnL.set (f := fun z => .int .i32 z) hO3 (g := g) (i := i) (oc := cap) (by rw [hml]) (by rw [hml]; exact hin) 9678
          go_roundw
          case rel => exact ⟨k + 1, by omega, by go_num, by rw [HNX.out]; exact hO4, (hT2.trans (((Turned.refl [] wr).alloc _).trans hT3 (by simp)) (by simp)).setCell (p := ⟨g, i, none⟩) (.inr hgw) _⟩
          case measure => simp [intOf]; omega
        · have hall : m.sp.take k = m.sp := List.take_of_length_le (by have := HNS.out; omega)
          rw [hall] at hO
          have hfin : ∃ v, Ending.returned (Value.slice (some ⟨g, 0, none⟩) nw cap) = .returned v ∧ OwnL 21 1 rnEnc v (Ti.marks m m.sp) wr ∧ Turned [] w wr ∧ ∀ x ∈ blk v, w.heap.size ≤ x :=
            ⟨_, rfl, hO, hT.trans hT2 (by simp), by intro x hx; simp [blk, Value.ownBlock] at hx; subst hx; omega⟩
          clear hO hall
          go_wp2_with fail
          go_ret
          exact hfin
end TiW
end Go.Proofs.Ytecjfenpdpdanaa
