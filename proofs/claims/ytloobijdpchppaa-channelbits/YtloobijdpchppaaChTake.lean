/- What the reference's Take answers (ChR). -/
import Derived.Test.YtloobijdpchppaaChSend
import Derived.Test.YtloobijdpchppaaSerTake
namespace Go.Proofs.Ytloobijdpchppaa
open Go.RowKit
set_option linter.unusedVariables false
set_option linter.unusedSimpArgs false

namespace Ch
theorem acks_add (h : H) (b : Bool) : ∀ (i : Nat) (f : List Bool), acks h i (f ++ [b]) = acks h i f ++ [b && !knows h (((i + f.length) % 65536 : Nat) : Int)]
  | i, [] => rfl
  | i, c :: f => by
    have e := acks_add h b (i + 1) f
    rw [show i + 1 + f.length = i + (c :: f).length by rw [List.length_cons]; omega] at e
    show _ :: acks h (i + 1) (f ++ [b]) = _ :: acks h (i + 1) f ++ _
    rw [e]; rfl
theorem acks_next {h : H} {f : List Bool} {k : Nat} {b : Bool} (e : f[k]? = some b) :
    (acks h 0 (f.take k) ++ f.drop k).set k (b && !knows h ((k % 65536 : Nat) : Int)) = acks h 0 (f.take (k + 1)) ++ f.drop (k + 1) := by
  obtain ⟨hk, hb⟩ := List.getElem?_eq_some_iff.1 e
  have hl : (acks h 0 (f.take k)).length = k := by rw [acks_len, List.length_take]; omega
  rw [List.set_append_right k _ (by omega), hl, Nat.sub_self, List.take_add_one, e, List.drop_eq_getElem_cons hk]
  show acks h 0 (f.take k) ++ (_ :: f.drop (k + 1)) = acks h 0 (f.take k ++ [b]) ++ _
  rw [acks_add, List.length_take, Nat.min_eq_left (by omega), Nat.zero_add, List.append_assoc]; rfl
theorem acks_stay {h : H} {f : List Bool} {k : Nat} {b : Bool} (e : f[k]? = some b) (hs : (b && !knows h ((k % 65536 : Nat) : Int)) = b) :
    acks h 0 (f.take (k + 1)) ++ f.drop (k + 1) = acks h 0 (f.take k) ++ f.drop k := by
  obtain ⟨hk, hb⟩ := List.getElem?_eq_some_iff.1 e
  rw [List.take_add_one, e]
  show acks h 0 (f.take k ++ [b]) ++ _ = _
  rw [acks_add, List.length_take, Nat.min_eq_left (by omega), Nat.zero_add, hs, List.append_assoc, List.drop_eq_getElem_cons hk, hb]; rfl
theorem acks_at {h : H} {f : List Bool} {k : Nat} {b : Bool} (e : f[k]? = some b) : (acks h 0 (f.take k) ++ f.drop k)[k]? = some b := by
  obtain ⟨hk, hb⟩ := List.getElem?_eq_some_iff.1 e
  have hl : (acks h 0 (f.take k)).length = k := by rw [acks_len, List.length_take]; omega
  rw [List.getElem?_append_right (by omega), hl, Nat.sub_self, List.getElem?_drop, Nat.add_zero, e]
end Ch

namespace ChR
set_option maxRecDepth 20000 in
set_option maxHeartbeats 2000000 in
theorem take_old (p : Nat) (y : Bool) (l m : Int) (f : List Bool) (v : Value) (h : Ch.H) (w : World) (hr : RChan p y l m f v w) (hw : Ch.HWf h) (l0 : 0 ≤ l) (l1 : l < 65536) (m0 : 0 ≤ m) (m1 : m < 4294967296) (ho : Sr.ok y l m h.n = false) :
    Calls Try.prog 12 #[.pointer (some ⟨p, 0, none⟩), .agg #[.int .u16 h.n, .bool h.y, .int .u16 h.a, .int .u32 h.m]] w fun e w' => e = .returned (.tuple #[.slice none 0 0, .int .i64 8]) ∧ Turned [] w w' := by
  obtain ⟨hs, _, _⟩ := hr
  obtain ⟨c1, f1⟩ := hs.2 1 _ rfl
  obtain ⟨c2, f2⟩ := hs.2 2 _ rfl
  obtain ⟨c3, f3⟩ := hs.2 3 _ rfl
  have hp := hs.1
  have kt := fun (u : World) => SrR.take_any y l m h.n u l0 l1 m0 m1 hw.n0 hw.n1
  rw [ho] at kt
  obtain ⟨L, hL⟩ : ∃ L, L = Sr.last y l h.n := ⟨_, rfl⟩
  obtain ⟨M, hM⟩ : ∃ M, M = Sr.mask y l m h.n := ⟨_, rfl⟩
  rw [← hL, ← hM] at kt
  obtain ⟨hn, hy, ha, hm⟩ := h
  go_enter Try.func12, Try.ntmps12
  go_wp2_with fail
  go_region_with (go_at_call 35; (refine (kt _).mono ?_); rintro e2 u2 ⟨rfl, hb2⟩; obtain ⟨hc2, hf2⟩ := bcell hb2)
  all_goals
    go_wp2_with fail
    refine bodyPost_ret (v := .tuple #[.slice none 0 0, .int .i64 8]) (by simp [results, Try.results12, go_sem]) rfl ⟨rfl, ?_⟩
    repeat (first | exact Turned.refl _ _ | refine Turned.drew ?_ | refine Turned.alloc ?_ _ | refine Turned.setCell ?_ (Or.inr (by simp)) _ | refine Turned.trans ?_ (Turned.ofBelow hb2) (by simp))
end ChR
end Go.Proofs.Ytloobijdpchppaa
