/- Fields are led on by what was told: the program's (EnW). -/
import Derived.Test.YtjphcbcbaiifhaaEntWTd
namespace Go.Proofs.Ytjphcbcbaiifhaa
open Go.RowKit
set_option linter.unusedVariables false
set_option linter.unusedSimpArgs false

namespace EnW
theorem enEnc_put (e : En.E) (x : Int) : ∀ k, k < 6 → (enEnc e).set (2 + k) (.int .i64 x) = enEnc (En.put e k x) := by
  refine En.six ?_ ?_ ?_ ?_ ?_ ?_ <;> rfl
theorem enEnc_field (e : En.E) : ∀ k, k < 6 → (enEnc e)[2 + k]? = some (.int .i64 (En.field e k)) := by
  refine En.six ?_ ?_ ?_ ?_ ?_ ?_ <;> rfl
theorem led {p k : Nat} {e : En.E} {D : List Int} {d : Int} {w : World} (hk : k < 6) (h : Struct p (enEnc (En.adds e D k)) w) (hd : D[k]? = some d) :
    Struct p (enEnc (En.adds e D (k + 1))) (w.setCell ⟨p, 2 + k, none⟩ (.int .i64 (IntKind.i64.wrap (En.field (En.adds e D k) k + d)))) := by
  have := h.set (i := 2 + k) (by simp [enEnc]; omega) (.int .i64 (IntKind.i64.wrap (En.field (En.adds e D k) k + d)))
  rw [enEnc_put _ _ k hk, wrap_i64] at this
  rw [wrap_i64]
  have hg : D.getD k 0 = d := by simp [List.getD, hd]
  show Struct p (enEnc (En.put (En.adds e D k) k (wrap64 (En.field (En.adds e D k) k + D.getD k 0)))) _
  rw [hg]
  exact this

set_option maxHeartbeats 2000000 in
theorem addF_any (g p q c : Nat) (e : En.E) (D : List Int) (w : World) (hg : Places g 4 p 2 w) (hS : Struct p (enEnc (En.adds e D 0)) w) (hD : Struct q (dEnc D) w) (hl : D.length = 6) (hgp : g ≠ p) (hqp : q ≠ p) :
    Calls Try.prog 48 #[.slice (some ⟨g, 0, none⟩) 4 4, .slice (some ⟨q, 0, none⟩) 4 c] w fun r w' => r = .returned (.tuple #[]) ∧ Struct p (enEnc (En.adds e D 4)) w' ∧ Turned [p] w w' := by
  go_enter Try.func48, Try.ntmps48
  go_wp2_with fail
  go_loopw [8] (fun i wr => ∃ k : Nat, k ≤ 4 ∧ i = .int .i64 (k : Int) ∧ Struct p (enEnc (En.adds e D (k))) wr ∧ Turned [p] w wr) (fun i _ => 4 - (intOf i).toNat)
  case atStart => exact ⟨0, by omega, rfl, hS, Turned.refl _ _⟩
  case round =>
    obtain ⟨k, hk, rfl, hS, ht⟩ := hrel
    by_cases hlt : (k : Int) < 4
    · obtain ⟨d, hd⟩ : ∃ d, D[k]? = some d := ⟨_, List.getElem?_eq_getElem (by omega)⟩
      have c1 := (hg.keep ht (by simpa using hgp)).2 k (by omega)
      have c2 := (hS.2 (2 + (k)) _ (enEnc_field _ (k) (by omega))).1
      have f2 := (hS.2 (2 + (k)) _ (enEnc_field _ (k) (by omega))).2
      have c3 := ((hD.keep ht (by simpa using hqp)).2 (k) _ (dEnc_at hd)).1
      have hS' := led (by omega) hS hd
      have hT' := ht.setCell (p := ⟨p, 2 + (k), none⟩) (.inl (by simp)) (.int .i64 (IntKind.i64.wrap (En.field (En.adds e D (k)) (k) + d)))
      
      obtain ⟨z, hz⟩ : ∃ z, z = En.field (En.adds e D (k)) (k) := ⟨_, rfl⟩
      rw [← hz] at c2 hS' hT'
      rw [wrap_i64] at hS' hT'
      clear hS hz hd
      go_wp2_with fail
      go_region
      all_goals go_wp2_with fail
      all_goals go_roundw
      all_goals first
        | exact ⟨k + 1, by omega, by go_num, hS'.keep ((Turned.refl [] _).drew) (by simp), hT'.drew⟩
        | (simp [intOf]; omega)
    · have hkn : k = 4 := by omega
      subst hkn
      clear hlt
      go_wp2_with fail
      go_end0
      exact ⟨rfl, hS, ht⟩

set_option maxHeartbeats 2000000 in
theorem addI_any (g p q c : Nat) (e : En.E) (D : List Int) (w : World) (hg : Places g 2 p 6 w) (hS : Struct p (enEnc (En.adds e D 4)) w) (hD : Struct q (dEnc D) w) (hl : D.length = 6) (hgp : g ≠ p) (hqp : q ≠ p) :
    Calls Try.prog 49 #[.slice (some ⟨g, 0, none⟩) 2 2, .slice (some ⟨q, 4, none⟩) 2 c] w fun r w' => r = .returned (.tuple #[]) ∧ Struct p (enEnc (En.adds e D 6)) w' ∧ Turned [p] w w' := by
  go_enter Try.func49, Try.ntmps49
  go_wp2_with fail
  go_loopw [8] (fun i wr => ∃ k : Nat, k ≤ 2 ∧ i = .int .i64 (k : Int) ∧ Struct p (enEnc (En.adds e D (4 + k))) wr ∧ Turned [p] w wr) (fun i _ => 2 - (intOf i).toNat)
  case atStart => exact ⟨0, by omega, rfl, hS, Turned.refl _ _⟩
  case round =>
    obtain ⟨k, hk, rfl, hS, ht⟩ := hrel
    by_cases hlt : (k : Int) < 2
    · obtain ⟨d, hd⟩ : ∃ d, D[4 + k]? = some d := ⟨_, List.getElem?_eq_getElem (by omega)⟩
      have c1 := (hg.keep ht (by simpa using hgp)).2 k (by omega)
      have c2 := (hS.2 (2 + (4 + k)) _ (enEnc_field _ (4 + k) (by omega))).1
      have f2 := (hS.2 (2 + (4 + k)) _ (enEnc_field _ (4 + k) (by omega))).2
      have c3 := ((hD.keep ht (by simpa using hqp)).2 (4 + k) _ (dEnc_at hd)).1
      have hS' := led (by omega) hS hd
      have hT' := ht.setCell (p := ⟨p, 2 + (4 + k), none⟩) (.inl (by simp)) (.int .i64 (IntKind.i64.wrap (En.field (En.adds e D (4 + k)) (4 + k) + d)))
      rw [show 2 + (4 + k) = 6 + k by omega] at c2 f2 hS' hT'
      obtain ⟨z, hz⟩ : ∃ z, z = En.field (En.adds e D (4 + k)) (4 + k) := ⟨_, rfl⟩
      rw [← hz] at c2 hS' hT'
      rw [wrap_i64] at hS' hT'
      clear hS hz hd
      go_wp2_with fail
      go_region
      all_goals go_wp2_with fail
      all_goals go_roundw
      all_goals first
        | exact ⟨k + 1, by omega, by go_num, hS'.keep ((Turned.refl [] _).drew) (by simp), hT'.drew⟩
        | (simp [intOf]; omega)
    · have hkn : k = 2 := by omega
      subst hkn
      clear hlt
      go_wp2_with fail
      go_end0
      exact ⟨rfl, hS, ht⟩
end EnW
end Go.Proofs.Ytjphcbcbaiifhaa
