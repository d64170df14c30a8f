/- What the reference's Take does with a datagram that is new (ChR). -/
import Derived.Test.YtloobijdpchppaaChTake
import Derived.Test.YtloobijdpchppaaSerRef
import Derived.Test.YtloobijdpchppaaChJoin
namespace Go.Proofs.Ytloobijdpchppaa
open Go.RowKit
set_option linter.unusedVariables false
set_option linter.unusedSimpArgs false

namespace ChR
theorem nums_some {f : List Bool} {k : Nat} {P : Int → Bool} (h : f[k]? = some true) : (Ch.nums 0 (f.take (k + 1))).filter P = (Ch.nums 0 (f.take k)).filter P ++ (if P ((k : Int) % 65536) = true then [(k : Int) % 65536] else []) := by
  rw [nums_next h, if_pos rfl, List.filter_append]
  show _ ++ [((k : Int) % 65536)].filter P = _
  rw [List.filter_cons]; rfl
theorem nums_none {f : List Bool} {k : Nat} {P : Int → Bool} (h : f[k]? = some false) : (Ch.nums 0 (f.take (k + 1))).filter P = (Ch.nums 0 (f.take k)).filter P := by
  rw [nums_next h, if_neg (by decide), List.append_nil]

theorem one_after {α : Type} {enc : α → List Value} {a : α} {x : Value} (he : enc a = [x]) (w : World) (q : Addr) (u : Value) (t : TypeId) : ∀ j y, ([a].flatMap enc)[j]? = some y → ((w.setCell q u).alloc (.cells #[x] t)).cell? ⟨w.heap.size, 0 + j, none⟩ = some y := by
  have := one_cell he (w.setCell q u) t
  rw [show (w.setCell q u).heap.size = w.heap.size by simp] at this
  exact this
theorem out_after {X : List Int} {o : Value} {wr u2 : World} {g k : Nat} {x : Value} (h : NumsAt o X wr) (ht : Turned [] wr u2) (hn : ∀ q ∈ blk o, q ∉ [g]) (b : Obj) : NumsAt o X ((u2.setCell ⟨g, k, none⟩ x).alloc b) :=
  OwnL.keep h (ht.mono (S' := [g]) (by simp) |>.setCell (p := ⟨g, k, none⟩) (.inl (by simp)) _ |>.alloc b) hn
theorem take_row {h : Ch.H} {r : List Bool} {k g cap n : Nat} {u2 w1 : World} {o : Value} {b : Obj} (hr : OwnL 4 1 bEnc (.slice (some ⟨g, 0, none⟩) n cap) (r.set k false) (u2.setCell ⟨g, k, none⟩ (.bool false))) (hn : ∀ q ∈ blk o, q ∉ [g])
    (h1 : Turned (blk o) ((u2.setCell ⟨g, k, none⟩ (.bool false)).alloc b) w1) (hz : true = Ch.knows h ((k : Int) % 65536)) : OwnL 4 1 bEnc (.slice (some ⟨g, 0, none⟩) n cap) (r.set k (true && !Ch.knows h ((k % 65536 : Nat) : Int))) w1 := by
  have e : (true && !Ch.knows h ((k % 65536 : Nat) : Int)) = false := by
    have : ((k % 65536 : Nat) : Int) = (k : Int) % 65536 := by omega
    rw [this, ← hz]; rfl
  rw [e]
  exact (hr.keep ((Turned.refl [] _).alloc b) (by simp)).keep h1 (fun q hq hm => by simp [blk, Value.ownBlock] at hq; subst hq; exact hn q hm (by simp))
theorem take_turned {g k n cap : Nat} {W5 wr u2 w1 : World} {o : Value} {b : Obj} {x : Value} (ht : Turned (blk (.slice (some ⟨g, 0, none⟩) n cap)) W5 wr) (h2 : Turned [] wr u2) (hnew : ∀ q ∈ blk o, W5.heap.size ≤ q) (h1 : Turned (blk o) ((u2.setCell ⟨g, k, none⟩ x).alloc b) w1) :
    Turned (blk (.slice (some ⟨g, 0, none⟩) n cap)) W5 w1 :=
  (((ht.trans h2 (by simp)).setCell (p := ⟨g, k, none⟩) (.inl (by simp [blk, Value.ownBlock])) x).alloc b).trans h1 (fun q hq hl => by have := hnew q hq; omega)
theorem take_fresh {g k : Nat} {W5 u2 : World} {o v' : Value} {b : Obj} {x : Value} (hs : W5.heap.size ≤ u2.heap.size) (hnew : ∀ q ∈ blk o, W5.heap.size ≤ q) (hb : blk v' = blk o ∨ blk v' = [((u2.setCell ⟨g, k, none⟩ x).alloc b).heap.size]) : ∀ q ∈ blk v', W5.heap.size ≤ q := by
  intro q hq
  rcases hb with h | h
  · rw [h] at hq; exact hnew q hq
  · rw [h] at hq; simp at hq; omega

set_option maxRecDepth 20000 in
set_option maxHeartbeats 4000000 in
theorem take_new (p : Nat) (y : Bool) (l m : Int) (f : List Bool) (v : Value) (h : Ch.H) (w : World) (hr : RChan p y l m f v w) (hw : Ch.HWf h) (hf : f.length ≤ 60000) (l0 : 0 ≤ l) (l1 : l < 65536) (m0 : 0 ≤ m) (m1 : m < 4294967296) (ho : Sr.ok y l m h.n = true) :
    Calls Try.prog 12 #[.pointer (some ⟨p, 0, none⟩), .agg #[.int .u16 h.n, .bool h.y, .int .u16 h.a, .int .u32 h.m]] w fun e w' => ∃ va, e = .returned (.tuple #[va, .int .i64 0]) ∧ NumsAt va ((Ch.nums 0 f).filter (Ch.knows h)) w' ∧ (∀ k ∈ blk va, w.heap.size ≤ k) ∧ RChan p true (Sr.last y l h.n) (Sr.mask y l m h.n) (Ch.acks h 0 f) v w' ∧ Turned (p :: blk v) w w' := by
  obtain ⟨hs, hv, hnv⟩ := hr
  have hp := hs.1
  have hvl := hv.lt
  obtain ⟨oa, cap, hvf, _, _⟩ := hv.form
  have kt := fun (u : World) => SrR.take_any y l m h.n u l0 l1 m0 m1 hw.n0 hw.n1
  rw [ho] at kt
  obtain ⟨L, hL⟩ : ∃ L, L = Sr.last y l h.n := ⟨_, rfl⟩
  obtain ⟨M, hM⟩ : ∃ M, M = Sr.mask y l m h.n := ⟨_, rfl⟩
  rw [← hL, ← hM] at kt
  rw [← hL, ← hM]
  clear hL hM ho
  have HV : Hid (∀ k ∈ blk v, k < w.heap.size) := hvl
  have HNV : Hid (p ∉ blk v) := hnv
  clear hvl hnv
  subst hvf
  go_enter Try.func12, Try.ntmps12
  go_wp2_with fail
  obtain ⟨wa, hwa⟩ : ∃ wa, wa = w.alloc (.cells #[.int .u16 h.n, .bool h.y, .int .u16 h.a, .int .u32 h.m] 41) := ⟨_, rfl⟩
  rw [← hwa]
  have hta : Turned [] w wa := by rw [hwa]; exact (Turned.refl [] w).alloc _
  have hsz : wa.heap.size = w.heap.size + 1 := by rw [hwa]; simp
  have hsa := hs.keep hta (by simp)
  have hha : Struct w.heap.size [.int .u16 h.n, .bool h.y, .int .u16 h.a, .int .u32 h.m] wa := by rw [hwa]; exact Struct.new w [_, _, _, _] _
  have hva := hv.keep hta (by simp)
  clear hwa hs hv
  have hne : ¬ p = w.heap.size := by omega
  have hne1 : ¬ p = w.heap.size + 1 := by omega
  obtain ⟨c1, f1⟩ := hsa.2 1 _ rfl
  obtain ⟨c2, f2⟩ := hsa.2 2 _ rfl
  obtain ⟨c3, f3⟩ := hsa.2 3 _ rfl
  obtain ⟨h0, _⟩ := hha.2 0 _ rfl
  have hp1 : p < wa.heap.size := by omega
  refine Code.wp_mono (Q := fun e a' W' => Normal e (∃ n : Nat, a' = ⟨#[.pointer (some ⟨p, 0, none⟩), .agg #[.int .u16 h.n, .bool h.y, .int .u16 h.a, .int .u32 h.m], undef, .pointer (some ⟨w.heap.size, 0, none⟩), .slice none 0 0, .int .i64 0, .pointer (some ⟨n, 0, none⟩), .bool true, undef, undef, undef,
    .tuple #[.agg #[.bool true, .int .u16 L, .int .u32 M], .bool true], .pointer (some ⟨p, 0, none⟩), .pointer (some ⟨p, 0, none⟩), .pointer (some ⟨p, 1, none⟩), .agg #[.bool y, .int .u16 l, .int .u32 m], .pointer (some ⟨w.heap.size, 0, none⟩), .int .u16 h.n, .tuple #[.agg #[.bool true, .int .u16 L, .int .u32 M], .bool true], .agg #[.bool true, .int .u16 L, .int .u32 M], .bool true,
    undef, undef, undef, undef, undef, undef, undef, undef, undef, undef, undef, undef, undef, undef, undef, undef, undef, undef, undef, undef, undef, undef, undef, undef, undef, undef, undef, undef, undef, undef, undef, undef, undef, undef, undef, undef, undef, undef, undef, undef, undef, undef, undef, undef, undef, undef, undef, undef, undef], []⟩ ∧ Put3 wa n L M W')) ?tail ?walk
  case walk =>
    go_region_with (go_at_call 35; (with_reducible refine (kt _).mono ?_); rintro e2 u2 ⟨rfl, hb2⟩; obtain ⟨hc2, hf2⟩ := bcell hb2)
    all_goals exact ⟨_, rfl, by first | exact Put3.late (by repeat (first | exact Turned.refl [] _ | refine Turned.drew ?_ | refine Turned.alloc ?_ _)) hb2 | exact Put3.early (by omega) (by repeat (first | exact Turned.refl [] _ | refine Turned.drew ?_ | refine Turned.alloc ?_ _)) (by rw [← hsz]; first | exact Struct.new _ [_, _, _] _ | exact (Struct.new _ [_, _, _] _).keep (Turned.refl [] _).drew (by simp)) hb2⟩
  case tail =>
    intro e a' W3 hq
    obtain ⟨rfl, n, rfl, hT3, hN3, hn3⟩ := Normal.out hq
    clear hq kt
    clear c1 f1 c2 f2 c3 f3 h0
    have hs3 := hsa.keep hT3 (by simp)
    have hh3 := hha.keep hT3 (by simp)
    obtain ⟨c1, f1⟩ := hs3.2 1 _ rfl
    obtain ⟨c2, f2⟩ := hs3.2 2 _ rfl
    obtain ⟨c3, f3⟩ := hs3.2 3 _ rfl
    obtain ⟨h0, _⟩ := hh3.2 0 _ rfl
    obtain ⟨h1, _⟩ := hh3.2 1 _ rfl
    obtain ⟨h2, _⟩ := hh3.2 2 _ rfl
    obtain ⟨h3, _⟩ := hh3.2 3 _ rfl
    obtain ⟨n0, _⟩ := hN3.2 0 _ rfl
    obtain ⟨n1, _⟩ := hN3.2 1 _ rfl
    obtain ⟨n2, _⟩ := hN3.2 2 _ rfl
    have hpn : ¬ p = n := by omega
    have hnp : ¬ n = p := by omega
    have hpw : ¬ w.heap.size = p := by omega
    go_wp2_with fail
    obtain ⟨W5, hW5⟩ : ∃ W5, W5 = (((W3.setCell ⟨p, 1, none⟩ (.bool true)).setCell ⟨p, 2, none⟩ (.int .u16 L)).setCell ⟨p, 3, none⟩ (.int .u32 M)).alloc (.cells #[.bool h.y, .int .u16 h.a, .int .u32 h.m] 33) := ⟨_, rfl⟩
    rw [← hW5]
    have hT5 : Turned [p] w W5 := by
      rw [hW5]
      exact (((((hta.trans hT3 (by simp)).mono (S' := [p]) (by simp)).setCell (p := ⟨p, 1, none⟩) (.inl (by simp)) _).setCell (p := ⟨p, 2, none⟩) (.inl (by simp)) _).setCell (p := ⟨p, 3, none⟩) (.inl (by simp)) _).alloc _
    have hs5 : Struct p [.int .i64 (f.length : Int), .bool true, .int .u16 L, .int .u32 M, .slice oa f.length cap] W5 := by
      rw [hW5]; exact (((hs3.set (i := 1) (by simp) (.bool true)).set (i := 2) (by simp) (.int .u16 L)).set (i := 3) (by simp) (.int .u32 M)).keep ((Turned.refl [] _).alloc _) (by simp)
    have hv5 : OwnL 4 1 bEnc (.slice oa f.length cap) f W5 := by
      have hv3 := hva.keep hT3 (by simp)
      rw [hW5]
      exact hv3.keep ((((((Turned.refl [p] W3).setCell (p := ⟨p, 1, none⟩) (.inl (by simp)) _).setCell (p := ⟨p, 2, none⟩) (.inl (by simp)) _).setCell (p := ⟨p, 3, none⟩) (.inl (by simp)) _)).alloc _) (fun k hk hm => by simp at hm; subst hm; exact HNV.out hk)
    obtain ⟨B, hB⟩ : ∃ B, B = W3.heap.size := ⟨_, rfl⟩
    have hN5 : Struct B [.bool h.y, .int .u16 h.a, .int .u32 h.m] W5 := by
      rw [hW5, hB]
      have := Struct.new (((W3.setCell ⟨p, 1, none⟩ (.bool true)).setCell ⟨p, 2, none⟩ (.int .u16 L)).setCell ⟨p, 3, none⟩ (.int .u32 M)) [.bool h.y, .int .u16 h.a, .int .u32 h.m] 33
      rw [show (((W3.setCell ⟨p, 1, none⟩ (.bool true)).setCell ⟨p, 2, none⟩ (.int .u16 L)).setCell ⟨p, 3, none⟩ (.int .u32 M)).heap.size = W3.heap.size by simp] at this
      exact this
    have hwB : w.heap.size ≤ B := by rw [hB]; exact Nat.le_trans hta.size hT3.size
    rw [← hB]
    clear hW5 c1 f1 c2 f2 c3 f3 h0 h1 h2 h3 n0 n1 n2 hs3 hh3 hN3 hT3 hva hsa hha hta hsz hB
    have kh := fun (u : World) (q : Int) (q0 : 0 ≤ q) (q1 : q < 65536) => SrR.has_any h.y h.a h.m q u hw.a0 hw.a1 hw.m0 hw.m1 q0 q1
    have HB5 : Hid (∀ k ∈ blk (.slice oa f.length cap), k < W5.heap.size ∧ k ≠ B) := fun k hk => ⟨hv5.lt k hk, fun e => by have := HV.out k hk; omega⟩
    have hB5 := hN5.1
    have hp5 := hs5.1
    go_loopw [8, 10] (fun o i wr => ∃ k : Nat, k ≤ f.length ∧ i = .int .i64 (k : Int) ∧ NumsAt o ((Ch.nums 0 (f.take k)).filter (Ch.knows h)) wr ∧ OwnL 4 1 bEnc (.slice oa f.length cap) (Ch.acks h 0 (f.take k) ++ f.drop k) wr ∧ Turned (blk (.slice oa f.length cap)) W5 wr ∧ ∀ q ∈ blk o, W5.heap.size ≤ q) (fun _ i _ => f.length - (intOf i).toNat)
    case atStart => exact ⟨0, by omega, rfl, OwnL.nil _ _ _ _, by simpa [Ch.acks] using hv5, Turned.refl _ _, by simp [blk, Value.ownBlock]⟩
    case round =>
      obtain ⟨k, hk, rfl, hout, hrow, ht, hnew⟩ := hrel
      have hsr := hs5.keep ht (fun hm => HNV.out hm)
      have hNr := hN5.keep ht (fun hm => (HB5.out B hm).2 rfl)
      have c4 := (hsr.2 4 _ rfl).1
      by_cases hlt : (k : Int) < (f.length : Int)
      · obtain ⟨b, hb⟩ : ∃ b, f[k]? = some b := ⟨_, List.getElem?_eq_getElem (by omega)⟩
        have hat := Ch.acks_at (h := h) hb
        obtain ⟨g, cap', hv, hbk, hg, hc⟩ := hrow.cell bEnc_len hat
        have hln : (Ch.acks h 0 (f.take k) ++ f.drop k).length = f.length := by rw [List.length_append, Ch.acks_len, List.length_take, List.length_drop]; omega
        have hkl : k < (Ch.acks h 0 (f.take k) ++ f.drop k).length := by omega
        rw [hln] at hv
        simp at hv
        obtain ⟨rfl, rfl⟩ := hv
        obtain ⟨e0, e1⟩ := hc 0 _ rfl
        rw [Nat.mul_one, Nat.add_zero] at e0 e1
        cases b
        · have HN : Hid (_ = _) := nums_none (P := Ch.knows h) hb
          have HA : Hid (_ = _) := Ch.acks_stay (h := h) hb rfl
          clear hc hb hat hkl hln
          go_wp2_with fail
          go_roundw
          case rel => exact ⟨k + 1, by omega, by go_num, by rw [HN.out]; exact hout, by rw [HA.out]; exact hrow, ht, hnew⟩
          case measure => simp [intOf]; omega
        · obtain ⟨t0, _⟩ := hNr.2 0 _ rfl
          obtain ⟨t1, _⟩ := hNr.2 1 _ rfl
          obtain ⟨t2, _⟩ := hNr.2 2 _ rfl
          have k1 := kh wr ((k : Int) % 65536) (by omega) (by omega)
          have HX := nums_some (P := Ch.knows h) hb
          obtain ⟨z, hz⟩ : ∃ z, z = Ch.knows h ((k : Int) % 65536) := ⟨_, rfl⟩
          have hz2 : z = Sr.has h.y h.a h.m ((k : Int) % 65536) := hz
          rw [← hz2] at k1
          rw [← hz] at HX
          clear hz2
          cases z
          · rw [if_neg (by decide), List.append_nil] at HX
            have HN : Hid (_ = _) := HX
            have HA : Hid (_ = _) := Ch.acks_stay (h := h) hb (by show (true && !Ch.knows h ((k : Int) % 65536)) = true; rw [← hz]; rfl)
            clear hc hb hat hkl hln HX hz
            go_wp2_with (go_at_call 36; (with_reducible refine k1.mono ?_); rintro e u2 ⟨rfl, hb2⟩)
            have ht2 : Turned [] wr u2 := Turned.ofBelow hb2
            go_roundw
            case rel => exact ⟨k + 1, by omega, by go_num, by rw [HN.out]; exact OwnL.keep hout ht2 (by simp), by rw [HA.out]; exact hrow.keep ht2 (by simp), ht.trans ht2 (by simp), hnew⟩
            case measure => simp [intOf]; omega
          · rw [if_pos rfl] at HX
            have HN : Hid (_ = _) := HX
            have HA : Hid (_ = _) := Ch.acks_next (h := h) hb
            have HZ : Hid (_ = _) := hz
            have HR : Hid (∀ u, Turned [] wr u → OwnL 4 1 bEnc (.slice (some ⟨g, 0, none⟩) f.length cap) ((Ch.acks h 0 (f.take k) ++ f.drop k).set k false) (u.setCell ⟨g, k, none⟩ (.bool false))) :=
              fun u hu => (hrow.keep hu (by simp)).set (f := Value.bool) (oc := cap) (by rw [hln]) hkl false
            have hle : ((Ch.nums 0 (f.take k)).filter (Ch.knows h)).length ≤ k := Nat.le_trans (List.length_filter_le _ _) (nums_le f k)
            have hng : ∀ q ∈ blk u8, q ∉ [g] := fun q hq hm => by have := hnew q hq; have := (HB5.out g (by simp [blk, Value.ownBlock])).1; simp at hm; omega
            clear hc hb hat hkl hln HX hz
            obtain ⟨X, hX⟩ : ∃ X, X = (Ch.nums 0 (f.take k)).filter (Ch.knows h) := ⟨_, rfl⟩
            rw [← hX] at hout HN hle
            clear hX
            have hgs := hg
            have b1 : X.length + 1 ≤ maxLen := by unfold maxLen; omega
            have b2 : (X.length + 1) * 2 ≤ 140737488355328 := by omega
            go_wp2_with (first
              | (go_at_call 36; (with_reducible refine k1.mono ?_); rintro e u2 ⟨rfl, hb2⟩; have ht2 : Turned [] wr u2 := Turned.ofBelow hb2; have e0 := (ht2.cell (p := ⟨g, k, none⟩) hgs (by simp)).trans e0; have e1 := (ht2.frozen (p := ⟨g, k, none⟩) hgs (by simp)).trans e1; have c4 := ((hsr.keep ht2 (by simp)).2 4 _ rfl).1)
              | (at_builtin; refine wp_push (v := u8) elem_u16 rfl _ _ rfl rfl (out_after hout ht2 hng _) u2.heap.size 0 1 1 [(k : Int) % 65536] rfl rfl nEnc_len nEnc_one (one_after rfl u2 _ _ _) b1 b2 ?_; intro v' w1 ho1 ht1 hb1))
            go_roundw
            case rel => exact ⟨k + 1, by omega, by go_num, by rw [HN.out]; exact ho1, by rw [← HA.out]; exact take_row (HR.out u2 ht2) hng ht1 HZ.out, take_turned ht ht2 hnew ht1, take_fresh (Nat.le_trans ht.size ht2.size) hnew hb1⟩
            case measure => simp [intOf]; omega
      · have hk' : k = f.length := by omega
        subst hk'
        have HJ : f.take f.length = f := List.take_length
        rw [HJ] at hout
        rw [HJ, List.drop_length, List.append_nil] at hrow
        have HO : Hid (NumsAt _ _ wr) := hout
        have HR : Hid (OwnL _ _ _ _ _ wr) := hrow
        have HL : Hid ((Ch.acks h 0 f).length = f.length) := Ch.acks_len h 0 f
        clear hout hrow HJ
        have HN : Hid (∀ q ∈ blk u8, w.heap.size ≤ q) := fun q hq => by have := hnew q hq; have := hT5.size; omega
        go_wp2_with fail
        refine bodyPost_ret (v := .tuple #[u8, .int .i64 0]) (by simp [results, Try.results12, go_sem]) rfl ?_
        refine ⟨u8, rfl, HO.out, HN.out, ⟨?_, HR.out, HNV.out⟩, ?_⟩
        · rw [HL.out]; exact hsr
        · exact (hT5.mono (S' := p :: blk (.slice oa f.length cap)) (fun k hk _ => by simp at hk; simp [hk])).trans ht (fun k hk _ => List.mem_cons_of_mem _ hk)
end ChR
end Go.Proofs.Ytloobijdpchppaa
