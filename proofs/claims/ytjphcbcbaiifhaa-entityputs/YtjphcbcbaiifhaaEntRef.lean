/- An entity's fields, lists of entities, where an ID stands: the reference's (EnR). -/
import Derived.Test.YtjphcbcbaiifhaaEntMem
namespace Go.Proofs.Ytjphcbcbaiifhaa
open Go.RowKit
set_option linter.unusedVariables false
set_option linter.unusedSimpArgs false

namespace EnR
theorem int_ret {a b : Int} {p : Prop} (h : a = b) (hp : p) : Ending.returned (.int .i64 a) = .returned (.int .i64 b) ∧ p := by rw [h]; exact ⟨rfl, hp⟩
set_option maxHeartbeats 2000000 in
theorem field_any (e : En.E) (i : Nat) (hi : i < 6) (w : World) :
    Calls Try.prog 42 #[enVal e, .int .i64 (i : Int)] w fun r w' => r = .returned (.int .i64 (En.field e i)) ∧ Turned [] w w' := by
  obtain ⟨id, kind, ax, ay, vx, vy, h, t⟩ := e
  unfold enVal
  match i, hi with
  | 0, _ =>
    go_enter Try.func42, Try.ntmps42
    go_wp2
    go_ret
    exact ⟨rfl, (Turned.refl _ _).alloc _⟩
  | 1, _ =>
    go_enter Try.func42, Try.ntmps42
    go_wp2
    go_ret
    exact ⟨rfl, (Turned.refl _ _).alloc _⟩
  | 2, _ =>
    go_enter Try.func42, Try.ntmps42
    go_wp2
    go_ret
    exact ⟨rfl, (Turned.refl _ _).alloc _⟩
  | 3, _ =>
    go_enter Try.func42, Try.ntmps42
    go_wp2
    go_ret
    exact ⟨rfl, (Turned.refl _ _).alloc _⟩
  | 4, _ =>
    go_enter Try.func42, Try.ntmps42
    go_wp2
    go_ret
    exact ⟨rfl, (Turned.refl _ _).alloc _⟩
  | 5, _ =>
    go_enter Try.func42, Try.ntmps42
    go_wp2
    go_ret
    exact ⟨rfl, (Turned.refl _ _).alloc _⟩

set_option maxHeartbeats 4000000 in
theorem with_any (e : En.E) (i : Nat) (hi : i < 6) (x : Int) (w : World) :
    Calls Try.prog 52 #[enVal e, .int .i64 (i : Int), .int .i64 x] w fun r w' => r = .returned (enVal (En.put e i x)) ∧ Turned [] w w' := by
  obtain ⟨id, kind, ax, ay, vx, vy, h, t⟩ := e
  unfold enVal
  match i, hi with
  | 0, _ =>
    go_enter Try.func52, Try.ntmps52
    go_wp2
    exact bodyPost_ret (v := .agg #[.int .i64 id, .int .i64 kind, .int .i64 x, .int .i64 ay, .int .i64 vx, .int .i64 vy, .int .i64 h, .int .i64 t]) (by simp [results, Try.results52, go_sem]) rfl ⟨rfl, ((Turned.refl [] w).alloc _).alloc _⟩
  | 1, _ =>
    go_enter Try.func52, Try.ntmps52
    go_wp2
    exact bodyPost_ret (v := .agg #[.int .i64 id, .int .i64 kind, .int .i64 ax, .int .i64 x, .int .i64 vx, .int .i64 vy, .int .i64 h, .int .i64 t]) (by simp [results, Try.results52, go_sem]) rfl ⟨rfl, ((Turned.refl [] w).alloc _).alloc _⟩
  | 2, _ =>
    go_enter Try.func52, Try.ntmps52
    go_wp2
    exact bodyPost_ret (v := .agg #[.int .i64 id, .int .i64 kind, .int .i64 ax, .int .i64 ay, .int .i64 x, .int .i64 vy, .int .i64 h, .int .i64 t]) (by simp [results, Try.results52, go_sem]) rfl ⟨rfl, ((Turned.refl [] w).alloc _).alloc _⟩
  | 3, _ =>
    go_enter Try.func52, Try.ntmps52
    go_wp2
    exact bodyPost_ret (v := .agg #[.int .i64 id, .int .i64 kind, .int .i64 ax, .int .i64 ay, .int .i64 vx, .int .i64 x, .int .i64 h, .int .i64 t]) (by simp [results, Try.results52, go_sem]) rfl ⟨rfl, ((Turned.refl [] w).alloc _).alloc _⟩
  | 4, _ =>
    go_enter Try.func52, Try.ntmps52
    go_wp2
    exact bodyPost_ret (v := .agg #[.int .i64 id, .int .i64 kind, .int .i64 ax, .int .i64 ay, .int .i64 vx, .int .i64 vy, .int .i64 x, .int .i64 t]) (by simp [results, Try.results52, go_sem]) rfl ⟨rfl, ((Turned.refl [] w).alloc _).alloc _⟩
  | 5, _ =>
    go_enter Try.func52, Try.ntmps52
    go_wp2
    exact bodyPost_ret (v := .agg #[.int .i64 id, .int .i64 kind, .int .i64 ax, .int .i64 ay, .int .i64 vx, .int .i64 vy, .int .i64 h, .int .i64 x]) (by simp [results, Try.results52, go_sem]) rfl ⟨rfl, ((Turned.refl [] w).alloc _).alloc _⟩

theorem formed_kept {W : World} (e : En.E) (b : Bool) (hb : decide (En.Formed e) = b) (x : KeptW W) : Calls Try.prog 11 #[enVal e] x.u fun r w'' => r = .returned (.bool b) ∧ ∃ y : KeptW W, w'' = y.u :=
  kept_call ((formed_any e x.u).mono fun r w' ⟨he, ht⟩ => ⟨by rw [← hb]; exact he, ht.none⟩)
theorem field_kept {W : World} (e : En.E) (i : Nat) (hi : i < 6) (x : KeptW W) : Calls Try.prog 42 #[enVal e, .int .i64 (i : Int)] x.u fun r w'' => r = .returned (.int .i64 (En.field e i)) ∧ ∃ y : KeptW W, w'' = y.u :=
  kept_call ((field_any e i hi x.u).mono fun r w' ⟨he, ht⟩ => ⟨he, ht.none⟩)

set_option maxHeartbeats 1000000 in
theorem find_any (oa : Option Addr) (cap : Nat) (l : List En.E) (id : Int) (w : World) (hr : RowOf 8 enEnc oa l w) (hl : (l.length : Int) ≤ 9223372036854775807) :
    Calls Try.prog 15 #[.slice oa l.length cap, .int .i64 id] w fun r w' => r = .returned (.int .i64 (En.find l id)) ∧ w' = w := by
  obtain ⟨n, hn⟩ : ∃ n, n = l.length := ⟨_, rfl⟩
  rw [← hn] at hl ⊢
  have HN : Hid (n = l.length) := hn
  clear hn
  go_enter Try.func15, Try.ntmps15
  go_wp2_with fail
  go_loop [5] (fun i => ∃ k : Nat, k ≤ n ∧ i = .int .i64 (k : Int) ∧ ∀ (j : Nat) (d : En.E), j < k → l[j]? = some d → d.id ≠ id) (fun i => n - (intOf i).toNat)
  case atStart => exact ⟨0, by omega, rfl, fun j d h _ => absurd h (by omega)⟩
  case round =>
    obtain ⟨k, hk, rfl, hno⟩ := hrel
    by_cases hlt : (k : Int) < (n : Int)
    · obtain ⟨e, he⟩ : ∃ e, l[k]? = some e := ⟨_, List.getElem?_eq_getElem (by have := HN.out; omega)⟩
      obtain ⟨g, off, rfl, hg, p0, _⟩ := en_at hr he
      by_cases hid : e.id = id
      · have HF : Hid (En.find l id = (k : Int)) := En.find_at he hid hno
        have i1 : (e.id == id) = true := by rw [beq_iff_eq]; exact hid
        have HID : Hid (e.id = id) := hid
        clear hno he hid
        go_wp2_with fail
        go_ret
        exact int_ret HF.out.symm rfl
      · have i1 : (e.id == id) = false := by rw [beq_eq_false_iff_ne]; exact hid
        have HNO : Hid (∀ (j : Nat) (d : En.E), j < k + 1 → l[j]? = some d → d.id ≠ id) := by
          intro j d hj hd
          by_cases hjk : j = k
          · subst hjk; rw [he] at hd; simp at hd; subst hd; exact hid
          · exact hno j d (by omega) hd
        clear hno he hid
        go_wp2_with fail
        go_round
        case rel => exact ⟨k + 1, by omega, by go_num, HNO.out⟩
        case measure => simp [intOf]; omega
    · have HF : Hid (En.find l id = -1) := En.find_no fun j d hd => hno j d (by have := (List.getElem?_eq_some_iff.1 hd).1; have := HN.out; omega) hd
      clear hno
      go_wp2_with fail
      go_ret
      exact int_ret HF.out.symm rfl
end EnR
end Go.Proofs.Ytjphcbcbaiifhaa
