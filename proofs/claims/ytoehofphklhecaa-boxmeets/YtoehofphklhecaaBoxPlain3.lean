/- What is met first, by the reference's words and by the program's, is the same; and what follows of it for ways to and fro, and for halves of ways. -/
import Derived.Test.YtoehofphklhecaaBoxPlain2
namespace Go.Proofs.Ytoehofphklhecaa
set_option linter.unusedVariables false
namespace Bx

/-- a time at which the point lies there in both directions: then it is met, at the later one of both first times -/
theorem met_by {l m f t l' m' f' t' n d : Int} (b1 : t - f ≤ 1073741824) (b2 : f - t ≤ 1073741824) (b3 : t' - f' ≤ 1073741824) (b4 : f' - t' ≤ 1073741824)
    (h1 : 1 ≤ d) (h2 : 0 ≤ n) (h3 : n ≤ d) (a1 : at1 l m f t n d) (a2 : at1 l' m' f' t' n d) : metOk (st l m f t) (st l' m' f' t') = true := by
  rcases met_all (l := l) (m := m) (l' := l') (m' := m') b1 b2 b3 b4 with h | h
  · exact h.1
  · exact (h.2.2.2 n d h1 h2 h3 a1 a2).elim
theorem met_oks {x y : St} (h : metOk x y = true) : x.ok = true ∧ y.ok = true := by
  simp only [metOk, Bool.and_eq_true] at h; exact ⟨h.1.1.1, h.1.1.2⟩
theorem metN_of {x y : St} (h : metOk x y = true) : metN x y = laterN x.fn x.fd y.fn y.fd := by unfold metN; rw [if_pos h]
theorem metD_of {x y : St} (h : metOk x y = true) : metD x y = laterD x.fn x.fd y.fn y.fd := by unfold metD; rw [if_pos h]

def rOkX (fx fy tx ty lx ly mx my : Int) : Bool := (comes fx tx lx mx).ok && (atB lx mx fx tx (comes fx tx lx mx).n (comes fx tx lx mx).d && atB ly my fy ty (comes fx tx lx mx).n (comes fx tx lx mx).d)
def rOkY (fx fy tx ty lx ly mx my : Int) : Bool := (comes fy ty ly my).ok && (atB lx mx fx tx (comes fy ty ly my).n (comes fy ty ly my).d && atB ly my fy ty (comes fy ty ly my).n (comes fy ty ly my).d)

theorem meet_ref {fx fy tx ty lx ly mx my : Int} (hm : may fx fy tx ty lx ly mx my = true) :
    (inB fx fy lx ly mx my = true → meetN fx fy tx ty lx ly mx my = 0 ∧ meetD fx fy tx ty lx ly mx my = 1 ∧ meetOk fx fy tx ty lx ly mx my = true) ∧
    (inB fx fy lx ly mx my = false → rOkX fx fy tx ty lx ly mx my = true → meetN fx fy tx ty lx ly mx my = (comes fx tx lx mx).n ∧ meetD fx fy tx ty lx ly mx my = (comes fx tx lx mx).d ∧ meetOk fx fy tx ty lx ly mx my = true) ∧
    (inB fx fy lx ly mx my = false → rOkX fx fy tx ty lx ly mx my = false → rOkY fx fy tx ty lx ly mx my = true → meetN fx fy tx ty lx ly mx my = (comes fy ty ly my).n ∧ meetD fx fy tx ty lx ly mx my = (comes fy ty ly my).d ∧ meetOk fx fy tx ty lx ly mx my = true) ∧
    (inB fx fy lx ly mx my = false → rOkX fx fy tx ty lx ly mx my = false → rOkY fx fy tx ty lx ly mx my = false → meetN fx fy tx ty lx ly mx my = 0 ∧ meetD fx fy tx ty lx ly mx my = 0 ∧ meetOk fx fy tx ty lx ly mx my = false) := by
  obtain ⟨⟨⟨a1, a2⟩, a3, a4⟩, ⟨⟨a5, a6⟩, a7, a8⟩, hf⟩ := may_iff.1 hm
  have hf' := hf
  obtain ⟨⟨⟨b1, b2⟩, b3, b4⟩, ⟨⟨b5, b6⟩, b7, b8⟩, b9, b10⟩ := formed_iff.1 hf
  have eN : meetN fx fy tx ty lx ly mx my = metN (st lx mx fx tx) (st ly my fy ty) := by unfold meetN; rw [if_pos hm]
  have eD : meetD fx fy tx ty lx ly mx my = metD (st lx mx fx tx) (st ly my fy ty) := by unfold meetD; rw [if_pos hm]
  have eO : meetOk fx fy tx ty lx ly mx my = metOk (st lx mx fx tx) (st ly my fy ty) := by unfold meetOk; rw [hm]; rfl
  rw [eN, eD, eO]
  have B := @met_by lx mx fx tx ly my fy ty
  have A := met_all (l := lx) (m := mx) (f := fx) (t := tx) (l' := ly) (m' := my) (f' := fy) (t' := ty) (by omega) (by omega) (by omega) (by omega)
  have X := @st_iff lx mx fx tx
  have Y := @st_iff ly my fy ty
  have FX := @st_fits lx mx fx tx
  have FY := @st_fits ly my fy ty
  have CX := @comes_st fx tx lx mx b9
  have CY := @comes_st fy ty ly my b10
  have NX := @comes_not fx tx lx mx b9
  have NY := @comes_not fy ty ly my b10
  have IX := @st_in fx tx lx mx
  have IY := @st_in fy ty ly my
  unfold rOkX rOkY
  have hin : inB fx fy lx ly mx my = true ↔ (lx ≤ fx ∧ fx ≤ mx) ∧ (ly ≤ fy ∧ fy ≤ my) := by rw [inB_iff]; exact ⟨fun h => h.2, fun h => ⟨hf', h⟩⟩
  -- the later one
  have later : ∀ (h : metOk (st lx mx fx tx) (st ly my fy ty) = true),
      ((st lx mx fx tx).fn * (st ly my fy ty).fd < (st ly my fy ty).fn * (st lx mx fx tx).fd ∧ metN (st lx mx fx tx) (st ly my fy ty) = (st ly my fy ty).fn ∧ metD (st lx mx fx tx) (st ly my fy ty) = (st ly my fy ty).fd) ∨
      ((st ly my fy ty).fn * (st lx mx fx tx).fd ≤ (st lx mx fx tx).fn * (st ly my fy ty).fd ∧ metN (st lx mx fx tx) (st ly my fy ty) = (st lx mx fx tx).fn ∧ metD (st lx mx fx tx) (st ly my fy ty) = (st lx mx fx tx).fd) := by
    intro h
    obtain ⟨o1, o2⟩ := met_oks h
    obtain ⟨⟨x1, x2, x3, x4⟩, _⟩ := FX o1 (by omega) (by omega)
    obtain ⟨⟨y1, y2, y3, y4⟩, _⟩ := FY o2 (by omega) (by omega)
    rw [metN_of h, metD_of h]
    unfold laterN laterD
    rw [ahead_of (right_iff.2 (by omega)) (right_iff.2 (by omega))]
    by_cases g : (st lx mx fx tx).fn * (st ly my fy ty).fd < (st ly my fy ty).fn * (st lx mx fx tx).fd
    · left; rw [if_pos (by simpa using g), if_pos (by simpa using g)]; exact ⟨g, rfl, rfl⟩
    · right; rw [if_neg (by simpa using g), if_neg (by simpa using g)]; exact ⟨by omega, rfl, rfl⟩
  generalize st lx mx fx tx = x at *
  generalize st ly my fy ty = y at *
  refine ⟨?_, ?_, ?_, ?_⟩
  · intro h
    obtain ⟨⟨i1, i2⟩, i3, i4⟩ := hin.1 h
    have ok : metOk x y = true := B (n := 0) (d := 1) (by omega) (by omega) (by omega) (by omega) (by omega) (by omega) (by omega) (by unfold at1; constructor <;> omega) (by unfold at1; constructor <;> omega)
    obtain ⟨_, u1, u2⟩ := IX i1 i2
    obtain ⟨_, v1, v2⟩ := IY i3 i4
    rcases later ok with ⟨g, e1, e2⟩ | ⟨g, e1, e2⟩
    · rw [e1, e2, v1, v2]; exact ⟨rfl, rfl, ok⟩
    · rw [e1, e2, u1, u2]; exact ⟨rfl, rfl, ok⟩
  · intro _ h
    simp only [Bool.and_eq_true, atB_iff] at h
    obtain ⟨c, t1, t2⟩ := h
    obtain ⟨k1, k2, k3, k4, k5⟩ := CX c
    obtain ⟨⟨x1, x2, x3, x4⟩, _⟩ := FX k1 (by omega) (by omega)
    rw [← k2, ← k3] at t1 t2 ⊢
    have ok : metOk x y = true := B (by omega) (by omega) (by omega) (by omega) x1 x3 x4 t1 t2
    have hy := ((Y x1 x3 x4).1 t2).2.1
    rcases later ok with ⟨g, e1, e2⟩ | ⟨g, e1, e2⟩
    · omega
    · exact ⟨e1, e2, ok⟩
  · intro _ hx h
    simp only [Bool.and_eq_true, atB_iff] at h
    obtain ⟨c, t1, t2⟩ := h
    obtain ⟨k1, k2, k3, k4, k5⟩ := CY c
    obtain ⟨⟨y1, y2, y3, y4⟩, _⟩ := FY k1 (by omega) (by omega)
    rw [← k2, ← k3] at t1 t2 ⊢
    have ok : metOk x y = true := B (by omega) (by omega) (by omega) (by omega) y1 y3 y4 t1 t2
    rcases later ok with ⟨g, e1, e2⟩ | ⟨g, e1, e2⟩
    · exact ⟨e1, e2, ok⟩
    · exfalso
      cases hc : (comes fx tx lx mx).ok with
      | true =>
        obtain ⟨j1, j2, j3, j4, j5⟩ := CX hc
        rcases A with A | A
        · obtain ⟨_, _, s1, s2, _⟩ := A
          rw [e1, e2, j2, j3] at s1 s2
          rw [hc, atB_iff.2 s1, atB_iff.2 s2] at hx; cases hx
        · rw [ok] at A; exact absurd A.1 (by simp)
      | false =>
        obtain ⟨j1, j2, j3, j4⟩ := NX hc (met_oks ok).1
        rw [j1, j2] at g; omega
  · intro hi hx hy
    rcases A with A | A
    · exfalso
      obtain ⟨ok, _, s1, s2, _⟩ := A
      obtain ⟨o1, o2⟩ := met_oks ok
      obtain ⟨⟨x1, x2, x3, x4⟩, _⟩ := FX o1 (by omega) (by omega)
      rcases later ok with ⟨g, e1, e2⟩ | ⟨g, e1, e2⟩
      · rw [e1, e2] at s1 s2
        cases hc : (comes fy ty ly my).ok with
        | true =>
          obtain ⟨j1, j2, j3, j4, j5⟩ := CY hc
          rw [j2, j3] at s1 s2
          rw [hc, atB_iff.2 s1, atB_iff.2 s2] at hy; cases hy
        | false =>
          obtain ⟨j1, j2, j3, j4⟩ := NY hc o2
          rw [j1, j2] at g; omega
      · rw [e1, e2] at s1 s2
        cases hc : (comes fx tx lx mx).ok with
        | true =>
          obtain ⟨j1, j2, j3, j4, j5⟩ := CX hc
          rw [j2, j3] at s1 s2
          rw [hc, atB_iff.2 s1, atB_iff.2 s2] at hx; cases hx
        | false =>
          obtain ⟨j1, j2, j3, j4⟩ := NX hc o1
          cases hd : (comes fy ty ly my).ok with
          | true =>
            obtain ⟨i1, i2, i3, i4, i5⟩ := CY hd
            rw [j1, j2, i2] at g; omega
          | false =>
            obtain ⟨i1, i2, i3, i4⟩ := NY hd o2
            rw [hin.2 ⟨⟨j3, j4⟩, i3, i4⟩] at hi; cases hi
    · exact ⟨A.2.1, A.2.2.1, A.1⟩
end Bx
end Go.Proofs.Ytoehofphklhecaa
