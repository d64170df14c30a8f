/- What the functions of layer 7 answer, as a call: the program's (FrW). -/
import Derived.Test.YtdaedmbdoniaiaaFrMem
import Derived.Test.YtdaedmbdoniaiaaFramePlain
import Derived.Test.YtdaedmbdoniaiaaCrcWalks
import Derived.Test.YtdaedmbdoniaiaaKept
namespace Go.Proofs.Ytdaedmbdoniaiaa
open Go.RowKit
set_option linter.unusedVariables false

namespace FrW
theorem byte0 {s : Nat} : IntKind.u8.wrap ((s : Int)) = ((s % 256 : Nat) : Int) := by simp [IntKind.wrap, IntKind.bits, IntKind.signed]

set_option maxHeartbeats 400000 in
theorem mark_any (key : Nat) (hk : key < 4294967296) (oa : Option Addr) (l : List Nat) (len cap : Nat) (w : World) (hlen : l.length = len) (hm : (len : Int) ≤ 4000) (hr : RowOf 1 byEnc oa l w) (hb : ∀ x ∈ l, x < 256) :
    Calls Try.prog 14 #[.int .u32 (key : Int), .slice oa len cap] w fun e w' => e = .returned (.slice (some ⟨w.heap.size, 0, none⟩) 4 4) ∧ w' = w.alloc (.cells ((Cr.four4 (Fr.sum key l)).flatMap byEnc).toArray 5) := by
  have hL : len < 4294967296 := by omega
  have k1 := fun u => CrW.mix_any key len hk hL u
  have k2 := CrW.sum_any oa l len cap w hlen (by omega) hr.row hb
  have k3 := fun u => CrW.mix_any (Cr.sum l) (Fr.mix key len) (Cr.sum_lt _) (Fr.mix_lt _ _) u
  have e3 : Cr.sum (Cr.four4 (Cr.sum l) ++ Cr.four4 (Fr.mix key len)) = Fr.sum key l := by unfold Fr.sum; rw [hlen]; rfl
  rw [e3] at k3
  have e1 : Cr.sum (Cr.four4 key ++ Cr.four4 len) = Fr.mix key len := rfl
  rw [e1] at k1
  have hs := Fr.sum_lt key l
  generalize Fr.sum key l = s at k3 hs ⊢
  clear e3 e1 hL
  go_enter Try.func14, Try.ntmps14
  go_wp2_with (first | (go_at_call 18; with_reducible refine (k1 _).mono ?_; rintro e w' ⟨rfl, rfl⟩) | (go_at_call 19; with_reducible refine k2.mono ?_; rintro e w' ⟨rfl, rfl⟩) | (go_at_call 18; with_reducible refine (k3 _).mono ?_; rintro e w' ⟨rfl, rfl⟩))
  go_ret
  refine ⟨rfl, ?_⟩
  have e : ((Cr.four4 s).flatMap byEnc).toArray = #[Value.int IntKind.u8 ((s : Int) % 256), Value.int IntKind.u8 ((s : Int) / 256 % 256), Value.int IntKind.u8 ((s : Int) / 65536 % 256), Value.int IntKind.u8 ((s : Int) / 16777216)] := by
    simp [Cr.four4, byEnc]
    omega
  rw [e]

/-- the mark, as a row of the call's own -/
theorem mark_own (key : Nat) (l : List Nat) (w : World) : OwnL 5 1 byEnc (.slice (some ⟨w.heap.size, 0, none⟩) 4 4) (Cr.four4 (Fr.sum key l)) (w.alloc (.cells ((Cr.four4 (Fr.sum key l)).flatMap byEnc).toArray 5)) :=
  OwnL.fresh (Cr.four4 (Fr.sum key l)) w (by show 4 ≤ maxLen; unfold maxLen; omega)

set_option maxHeartbeats 400000 in
theorem wrap_any (key : Nat) (hk : key < 4294967296) (oa : Option Addr) (l : List Nat) (len cap : Nat) (w : World) (hlen : l.length = len) (hm : (len : Int) ≤ 1400) (hr : RowOf 1 byEnc oa l w) (hb : ∀ x ∈ l, x < 256) :
    Calls Try.prog 9 #[.int .u32 (key : Int), .slice oa len cap] w fun e w' => ∃ v, e = .returned (.tuple #[v, .int .i64 0]) ∧ OwnL 5 1 byEnc v (Fr.wrap key l) w' ∧ Turned [] w w' ∧ ∀ k ∈ blk v, w.heap.size ≤ k := by
  have k1 := mark_any key hk oa l len cap w hlen (by omega) hr hb
  have ho := mark_own key l w
  have ht := (Turned.refl [] w).alloc (.cells ((Cr.four4 (Fr.sum key l)).flatMap byEnc).toArray 5)
  have hrw := hr.turned ht (by simp)
  generalize w.alloc (.cells ((Cr.four4 (Fr.sum key l)).flatMap byEnc).toArray 5) = w1 at k1 ho ht hrw
  have hl4 : (Cr.four4 (Fr.sum key l)).length + len ≤ 100000 := by show 4 + len ≤ _; omega
  have HL : Hid ((Cr.four4 (Fr.sum key l)).length + len ≤ 100000) := hl4
  clear hl4 hr
  go_enter Try.func9, Try.ntmps9
  go_wp2_with (first | (go_at_call 14; with_reducible refine k1.mono ?_; rintro e w' ⟨rfl, rfl⟩) | (at_builtin; refine wp_pushAll elem_u8 rfl _ _ rfl rfl ho oa len cap l hlen rfl hrw byEnc_len byEnc_one (by have := HL.out; unfold maxLen; omega) (by have := HL.out; omega) ?_; intro v' w2 ho2 ht2 hb2))
  go_ret2
  refine ⟨v', rfl, ho2, ht.trans ht2 ?_, ?_⟩
  · intro k hkb hl
    have : k ∈ [w.heap.size] := hkb
    simp at this
    omega
  · intro k hkb
    rcases hb2 with h | h
    · rw [h] at hkb
      have : k ∈ [w.heap.size] := hkb
      simp at this
      omega
    · rw [h] at hkb; simp at hkb; have := ht.size; omega

set_option maxHeartbeats 400000 in
theorem wrap_long (key : Int) (oa : Option Addr) (len cap : Nat) (w : World) (hm : 1400 < (len : Int)) (hm' : (len : Int) ≤ 9223372036854775807) :
    Calls Try.prog 9 #[.int .u32 key, .slice oa len cap] w fun e w' => e = .returned (.tuple #[.slice none 0 0, .int .i64 3]) ∧ w' = w := by
  go_enter Try.func9, Try.ntmps9
  go_wp2
  go_ret2
  exact ⟨rfl, rfl⟩

set_option maxHeartbeats 400000 in
theorem open_short (key : Int) (oa : Option Addr) (len cap : Nat) (w : World) (hm : (len : Int) < 4) :
    Calls Try.prog 11 #[.int .u32 key, .slice oa len cap] w fun e w' => e = .returned (.tuple #[.slice none 0 0, .int .i64 4]) ∧ w' = w := by
  go_enter Try.func11, Try.ntmps11
  go_wp2
  go_ret2
  exact ⟨rfl, rfl⟩

set_option maxHeartbeats 400000 in
theorem open_long (key : Int) (oa : Option Addr) (len cap : Nat) (w : World) (hm : 1404 < (len : Int)) (hm' : (len : Int) ≤ 9223372036854775807) :
    Calls Try.prog 11 #[.int .u32 key, .slice oa len cap] w fun e w' => e = .returned (.tuple #[.slice none 0 0, .int .i64 3]) ∧ w' = w := by
  go_enter Try.func11, Try.ntmps11
  go_wp2
  go_ret2
  exact ⟨rfl, rfl⟩

theorem split4 {l : List Nat} (h : 4 ≤ l.length) : l = l.take 4 ++ l.drop 4 := (List.take_append_drop 4 l).symm
theorem opens_iff {key : Nat} {l : List Nat} : Fr.opens key l = decide (l.take 4 = Cr.four4 (Fr.sum key (l.drop 4))) := by
  unfold Fr.opens Fr.wrap
  by_cases h : l.take 4 = Cr.four4 (Fr.sum key (l.drop 4))
  · rw [← h, List.take_append_drop]; simp [h]
  · rw [decide_eq_false h, beq_eq_false_iff_ne]
    intro e
    apply h
    have := congrArg (List.take 4) e
    rw [this, List.take_left' (show (Cr.four4 _).length = 4 from rfl)]

theorem fresh_ge {w w2 : World} {o : Obj} {n c : Nat} {v : Value} (ht : Turned [] w w2) (h : blk v = blk (.slice (some ⟨w2.heap.size, 0, none⟩) n c) ∨ blk v = [(w2.alloc o).heap.size]) : ∀ k ∈ blk v, w.heap.size ≤ k := by
  intro k hk
  have hs := ht.size
  rcases h with h | h
  · rw [h] at hk
    have : k ∈ [w2.heap.size] := hk
    simp at this
    omega
  · rw [h] at hk
    simp at hk
    omega
theorem fresh_turned {w w2 w3 : World} {o : Obj} {n c : Nat} (ht : Turned [] w w2) (h : Turned (blk (.slice (some ⟨w2.heap.size, 0, none⟩) n c)) (w2.alloc o) w3) : Turned [] w w3 := by
  refine (ht.alloc o).trans h ?_
  intro k hk hl
  have : k ∈ [w2.heap.size] := hk
  simp at this
  have hs := ht.size
  omega

set_option maxHeartbeats 1000000 in
theorem open_in (key : Nat) (hk : key < 4294967296) (g off : Nat) (l : List Nat) (len cap : Nat) (w : World) (hlen : l.length = len) (hm4 : 4 ≤ (len : Int)) (hm : (len : Int) ≤ 1404) (hc : (len : Int) ≤ (cap : Int)) (hr : RowOf 1 byEnc (some ⟨g, off, none⟩) l w) (hb : ∀ x ∈ l, x < 256) :
    Calls Try.prog 11 #[.int .u32 (key : Int), .slice (some ⟨g, off, none⟩) len cap] w fun e w' => (Fr.opens key l = true → ∃ v, e = .returned (.tuple #[v, .int .i64 0]) ∧ OwnL 5 1 byEnc v (l.drop 4) w' ∧ ∀ k ∈ blk v, w.heap.size ≤ k) ∧ (Fr.opens key l = false → e = .returned (.tuple #[.slice none 0 0, .int .i64 5])) ∧ Turned [] w w' := by
  rw [opens_iff]
  have hl4 : (l.drop 4).length = len - 4 := by rw [List.length_drop, hlen]
  have hb4 : ∀ x ∈ l.drop 4, x < 256 := fun x hx => hb x (List.mem_of_mem_drop hx)
  have ht4 : (l.take 4).length = 4 := by rw [List.length_take]; omega
  have hbt : ∀ x ∈ l.take 4, x < 256 := Cr.take_lt hb 4
  have hrt : RowOf 1 byEnc (some ⟨g, off, none⟩) (l.take 4) w := by
    have := hr.part (a := 0) (m := 4)
    exact this
  have hrd := hr.rest (a := 4)
  have h0 : cap = 4 → RowOf 1 byEnc (some ⟨g, off, none⟩) (l.drop 4) w := by
    intro h
    have : l.drop 4 = [] := List.drop_eq_nil_of_le (by omega)
    rw [this]
    intro i a hi
    simp at hi
  have km : ∀ o c, RowOf 1 byEnc (some ⟨g, o, none⟩) (l.drop 4) w → Calls Try.prog 14 #[.int .u32 (key : Int), .slice (some ⟨g, o, none⟩) (len - 4) c] w.drew fun e w' => e = .returned (.slice (some ⟨w.heap.size, 0, none⟩) 4 4) ∧ OwnL 5 1 byEnc (.slice (some ⟨w.heap.size, 0, none⟩) 4 4) (Cr.four4 (Fr.sum key (l.drop 4))) w' ∧ Turned [] w w' := by
    intro o c hu
    refine (mark_any key hk _ (l.drop 4) (len - 4) c w.drew hl4 (by omega) hu hb4).mono ?_
    rintro e w' ⟨rfl, rfl⟩
    exact ⟨rfl, mark_own key (l.drop 4) w.drew, (Turned.refl [] w).drew.alloc _⟩
  have ke : ∀ n c u, RowOf 1 byEnc (some ⟨g, off, none⟩) (l.take 4) u → OwnL 5 1 byEnc (.slice (some ⟨n, 0, none⟩) 4 4) (Cr.four4 (Fr.sum key (l.drop 4))) u → Calls Try.prog 17 #[.slice (some ⟨g, off, none⟩) 4 c, .slice (some ⟨n, 0, none⟩) 4 4] u fun e w' => e = .returned (.bool (decide (l.take 4 = Cr.four4 (Fr.sum key (l.drop 4))))) ∧ w' = u := by
    intro n c u hu ho
    obtain ⟨oa, cap', hv, _, _, hrow, _⟩ := ho.rowOf byEnc_len
    have e1 := (Value.slice.inj hv).1
    rw [← e1] at hrow
    exact Fr.equal_any _ _ _ (Cr.four4 (Fr.sum key (l.drop 4))) 4 4 c 4 _ ht4 rfl hu hrow hbt (Cr.four4_lt _)
  have hdl := hlen
  clear hlen hr hb hk hb4 hbt ht4
  generalize decide (l.take 4 = Cr.four4 (Fr.sum key (l.drop 4))) = q at ke ⊢
  by_cases hcap : cap = 4
  · have km' := fun c => km _ c (h0 hcap)
    have hr4 := (h0 hcap)
    subst hcap
    clear h0 hrd km
    go_enter Try.func11, Try.ntmps11
    go_wp2_with fail
    go_region_with (first | (go_at_call 14; with_reducible refine (km' _).mono ?_; rintro e w1 ⟨rfl, ho1, ht1⟩) | (go_at_call 17; with_reducible refine (ke _ _ _ (hrt.turned ht1 (by simp)) ho1).mono ?_; rintro e w2 ⟨rfl, rfl⟩))
    cases q
    · go_wp2_with fail
      go_ret2
      exact ⟨rfl, ht1⟩
    · have hr5 := (hr4.turned ht1 (by simp)).turned ((Turned.refl [] w2).alloc (.cells #[] 5)) (by simp)
      go_wp2_with (at_builtin; refine wp_pushAll elem_u8 rfl _ _ rfl rfl (OwnL.fresh [] w2 (Nat.zero_le _)) _ _ _ (l.drop 4) hl4 rfl hr5 byEnc_len byEnc_one (by rw [List.length_nil]; unfold maxLen; omega) (by rw [List.length_nil]; omega) ?_; intro v' w3 ho3 ht3 hb3)
      go_ret2
      exact ⟨⟨v', rfl, ho3, fresh_ge ht1 hb3⟩, fresh_turned ht1 ht3⟩
  · have km' := fun c => km _ c hrd
    have hr4 := hrd
    have hc4 : 4 ≤ (cap : Int) := by omega
    clear h0 hrd km
    go_enter Try.func11, Try.ntmps11
    go_wp2_with fail
    go_region_with (first | (go_at_call 14; with_reducible refine (km' _).mono ?_; rintro e w1 ⟨rfl, ho1, ht1⟩) | (go_at_call 17; with_reducible refine (ke _ _ _ (hrt.turned ht1 (by simp)) ho1).mono ?_; rintro e w2 ⟨rfl, rfl⟩))
    cases q
    · go_wp2_with fail
      go_ret2
      exact ⟨rfl, ht1⟩
    · have hr5 := (hr4.turned ht1 (by simp)).turned ((Turned.refl [] w2).alloc (.cells #[] 5)) (by simp)
      go_wp2_with (at_builtin; refine wp_pushAll elem_u8 rfl _ _ rfl rfl (OwnL.fresh [] w2 (Nat.zero_le _)) _ _ _ (l.drop 4) hl4 rfl hr5 byEnc_len byEnc_one (by rw [List.length_nil]; unfold maxLen; omega) (by rw [List.length_nil]; omega) ?_; intro v' w3 ho3 ht3 hb3)
      go_ret2
      exact ⟨⟨v', rfl, ho3, fresh_ge ht1 hb3⟩, fresh_turned ht1 ht3⟩
end FrW
end Go.Proofs.Ytdaedmbdoniaiaa
