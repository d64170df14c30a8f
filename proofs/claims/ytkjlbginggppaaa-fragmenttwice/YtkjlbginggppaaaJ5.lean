/- Joined: CrcPlain, CrcRow, Own, Bytes, FgLaw, FgLaw2, FgTwo, FgWho, FgWho2, FgWho3, FgWhoW, FgFPlain. -/
import Derived.Test.YtkjlbginggppaaaJ4
import Derived.Laws.BitsAllLaws
import Derived.Below
import Derived.Test.YtkjlbginggppaaaRows
import Derived.WalkKit
import Derived.OwnWalk
import Derived.Deep.RegionLaw
/- Sums of bytes by a reflected polynomial: plain functions over numbers, and their laws: a sum hangs on the bytes by exclusive or; four bytes side by side are told. -/
namespace Go.Proofs.Ytkjlbginggppaaa.Cr
set_option linter.unusedVariables false

/-- one bit -/
def bs (s : Nat) : Nat := if s % 2 = 1 then s / 2 ^^^ 3988292384 else s / 2
theorem xor_lt {a b : Nat} (ha : a < 4294967296) (hb : b < 4294967296) : a ^^^ b < 4294967296 := Nat.xor_lt_two_pow (n := 32) ha hb
theorem bs_lt {s : Nat} (h : s < 4294967296) : bs s < 4294967296 := by
  unfold bs
  split
  · exact xor_lt (by omega) (by omega)
  · omega
theorem bs_zero : bs 0 = 0 := rfl
theorem bs_even (s : Nat) : bs (2 * s) = s := by unfold bs; rw [if_neg (by omega)]; omega
theorem half_xor (a b : Nat) : (a ^^^ b) / 2 = a / 2 ^^^ b / 2 := Nat.xor_div_two
theorem odd_xor (a b : Nat) : (a ^^^ b) % 2 = (a % 2 + b % 2) % 2 := by
  have h := Nat.testBit_xor (x := a) (y := b) (i := 0)
  rw [Nat.testBit_zero, Nat.testBit_zero, Nat.testBit_zero] at h
  have ha : a % 2 < 2 := Nat.mod_lt _ (by omega)
  have hb : b % 2 < 2 := Nat.mod_lt _ (by omega)
  have hc : (a ^^^ b) % 2 < 2 := Nat.mod_lt _ (by omega)
  generalize (a ^^^ b) % 2 = z at *
  generalize a % 2 = x at *
  generalize b % 2 = y at *
  obtain rfl | rfl : x = 0 ∨ x = 1 := by omega
  all_goals obtain rfl | rfl : y = 0 ∨ y = 1 := by omega
  all_goals obtain rfl | rfl : z = 0 ∨ z = 1 := by omega
  all_goals revert h
  all_goals decide
theorem xor_inj {a b : Nat} (h : a ^^^ b = 0) : a = b := by
  have e : (a ^^^ b) ^^^ b = b := by rw [h, Nat.zero_xor]
  rw [Nat.xor_assoc, Nat.xor_self, Nat.xor_zero] at e
  exact e
theorem bs_xor (a b : Nat) : bs (a ^^^ b) = bs a ^^^ bs b := by
  unfold bs
  rw [half_xor, odd_xor]
  have ha : a % 2 = 0 ∨ a % 2 = 1 := by omega
  have hb : b % 2 = 0 ∨ b % 2 = 1 := by omega
  rcases ha with ha | ha <;> rcases hb with hb | hb <;> rw [ha, hb] <;> simp
  · rw [Nat.xor_assoc]
  · rw [Nat.xor_assoc, Nat.xor_comm (b / 2), Nat.xor_assoc]
  · rw [Nat.xor_assoc, Nat.xor_comm 3988292384, Nat.xor_assoc, Nat.xor_self, Nat.xor_zero]
theorem bs_ker {s : Nat} (h : s < 4294967296) (h0 : bs s = 0) : s = 0 := by
  unfold bs at h0
  split at h0
  · have := xor_inj h0
    omega
  · omega
/-- n bits -/
def bsn : Nat → Nat → Nat
  | 0, s => s
  | n + 1, s => bsn n (bs s)
theorem bsn_lt {s : Nat} (h : s < 4294967296) : ∀ n, bsn n s < 4294967296
  | 0 => h
  | n + 1 => bsn_lt (bs_lt h) n
theorem bsn_zero : ∀ n, bsn n 0 = 0
  | 0 => rfl
  | n + 1 => by show bsn n (bs 0) = 0; rw [bs_zero]; exact bsn_zero n
theorem bsn_xor : ∀ n a b, bsn n (a ^^^ b) = bsn n a ^^^ bsn n b
  | 0, _, _ => rfl
  | n + 1, a, b => by show bsn n (bs (a ^^^ b)) = _; rw [bs_xor]; exact bsn_xor n _ _
theorem bsn_ker : ∀ n {s : Nat}, s < 4294967296 → bsn n s = 0 → s = 0
  | 0, _, _, h0 => h0
  | n + 1, _, h, h0 => bs_ker h (bsn_ker n (bs_lt h) h0)
theorem bsn_add : ∀ m n s, bsn (m + n) s = bsn n (bsn m s)
  | 0, n, s => by rw [Nat.zero_add]; rfl
  | m + 1, n, s => by rw [Nat.add_right_comm]; exact bsn_add m n (bs s)
theorem bsn_succ (n s : Nat) : bs (bsn n s) = bsn (n + 1) s := by rw [bsn_add n 1]; rfl
theorem bsn_shift : ∀ n s, bsn n (2 ^ n * s) = s
  | 0, s => by rw [Nat.pow_zero, Nat.one_mul]; rfl
  | n + 1, s => by
    show bsn n (bs (2 ^ (n + 1) * s)) = s
    rw [show 2 ^ (n + 1) * s = 2 * (2 ^ n * s) by rw [Nat.pow_succ, Nat.mul_comm (2 ^ n) 2, Nat.mul_assoc], bs_even]
    exact bsn_shift n s
/-- one byte -/
def by8 (s b : Nat) : Nat := bsn 8 (s ^^^ b)
/-- a list of bytes, from s on -/
def fold (s : Nat) : List Nat → Nat
  | [] => s
  | b :: l => fold (by8 s b) l
def sum (l : List Nat) : Nat := 4294967295 - fold 4294967295 l
theorem by8_lt {s b : Nat} (hs : s < 4294967296) (hb : b < 256) : by8 s b < 4294967296 := bsn_lt (xor_lt hs (by omega)) 8
theorem fold_lt : ∀ {l : List Nat} {s : Nat}, s < 4294967296 → (∀ b ∈ l, b < 256) → fold s l < 4294967296
  | [], _, hs, _ => hs
  | b :: l, s, hs, hl => by
    show fold (by8 s b) l < 4294967296
    exact fold_lt (by8_lt hs (hl b (List.mem_cons_self ..))) fun c hc => hl c (List.mem_cons_of_mem _ hc)
theorem fold_append : ∀ (l r : List Nat) (s : Nat), fold s (l ++ r) = fold (fold s l) r
  | [], _, _ => rfl
  | b :: l, r, s => fold_append l r (by8 s b)
theorem fold_snoc (l : List Nat) (b s : Nat) : fold s (l ++ [b]) = by8 (fold s l) b := fold_append l [b] s
/-- two lists laid over one another -/
def over : List Nat → List Nat → List Nat
  | a :: l, b :: r => (a ^^^ b) :: over l r
  | _, _ => []
theorem by8_xor (s t a b : Nat) : by8 (s ^^^ t) (a ^^^ b) = by8 s a ^^^ by8 t b := by
  unfold by8
  rw [← bsn_xor]
  congr 1
  rw [Nat.xor_assoc, ← Nat.xor_assoc t, Nat.xor_comm t a, Nat.xor_assoc, Nat.xor_assoc]
theorem fold_xor : ∀ (l r : List Nat) (s t : Nat), l.length = r.length → fold (s ^^^ t) (over l r) = fold s l ^^^ fold t r
  | [], [], _, _, _ => rfl
  | a :: l, b :: r, s, t, h => by
    show fold (by8 (s ^^^ t) (a ^^^ b)) (over l r) = _
    rw [by8_xor]
    exact fold_xor l r _ _ (by simpa using h)
  | [], _ :: _, _, _, h => by simp at h
  | _ :: _, [], _, _, h => by simp at h
theorem by8_inj {s t b : Nat} (hs : s < 4294967296) (ht : t < 4294967296) (h : by8 s b = by8 t b) : s = t := by
  have e := by8_xor s t b b
  rw [h, Nat.xor_self, Nat.xor_self] at e
  unfold by8 at e
  rw [Nat.xor_zero] at e
  exact xor_inj (bsn_ker 8 (xor_lt hs ht) e)
theorem fold_inj : ∀ {l : List Nat} {s t : Nat}, s < 4294967296 → t < 4294967296 → (∀ b ∈ l, b < 256) → fold s l = fold t l → s = t
  | [], _, _, _, _, _, h => h
  | b :: l, s, t, hs, ht, hl, h => by
    have hb := hl b (List.mem_cons_self ..)
    exact by8_inj hs ht (fold_inj (by8_lt hs hb) (by8_lt ht hb) (fun c hc => hl c (List.mem_cons_of_mem _ hc)) h)
/-- four bytes as one number, the lowest one first -/
def word (b0 b1 b2 b3 : Nat) : Nat := ((b0 ^^^ 2 ^ 8 * b1) ^^^ 2 ^ 16 * b2) ^^^ 2 ^ 24 * b3
theorem fold_word (b0 b1 b2 b3 : Nat) : fold 0 [b0, b1, b2, b3] = bsn 32 (word b0 b1 b2 b3) := by
  show bsn 8 (bsn 8 (bsn 8 (bsn 8 (0 ^^^ b0) ^^^ b1) ^^^ b2) ^^^ b3) = _
  have h1 : bsn 8 (0 ^^^ b0) ^^^ b1 = bsn 8 (b0 ^^^ 2 ^ 8 * b1) := by rw [Nat.zero_xor, bsn_xor, bsn_shift]
  have h2 : bsn 8 (bsn 8 (b0 ^^^ 2 ^ 8 * b1)) ^^^ b2 = bsn 16 ((b0 ^^^ 2 ^ 8 * b1) ^^^ 2 ^ 16 * b2) := by rw [← bsn_add 8 8, bsn_xor 16 _ (2 ^ 16 * b2), bsn_shift]
  have h3 : bsn 8 (bsn 16 ((b0 ^^^ 2 ^ 8 * b1) ^^^ 2 ^ 16 * b2)) ^^^ b3 = bsn 24 (word b0 b1 b2 b3) := by
    unfold word; rw [← bsn_add 16 8, bsn_xor 24 _ (2 ^ 24 * b3), bsn_shift]
  rw [h1, h2, h3, ← bsn_add 24 8]
theorem word_lt {b0 b1 b2 b3 : Nat} (h0 : b0 < 256) (h1 : b1 < 256) (h2 : b2 < 256) (h3 : b3 < 256) : word b0 b1 b2 b3 < 4294967296 := by
  unfold word
  exact xor_lt (xor_lt (xor_lt (by omega) (by omega)) (by omega)) (by omega)
theorem word_zero {b0 b1 b2 b3 : Nat} (h0 : b0 < 256) (h1 : b1 < 256) (h2 : b2 < 256) (h3 : b3 < 256) (h : word b0 b1 b2 b3 = 0) : b0 = 0 ∧ b1 = 0 ∧ b2 = 0 ∧ b3 = 0 := by
  unfold word at h
  have e3 := xor_inj h
  have l2 : (b0 ^^^ 2 ^ 8 * b1) ^^^ 2 ^ 16 * b2 < 2 ^ 24 := Nat.xor_lt_two_pow (Nat.xor_lt_two_pow (by omega) (by omega)) (by omega)
  have z3 : b3 = 0 := by omega
  subst z3
  have e2 := xor_inj (show (b0 ^^^ 2 ^ 8 * b1) ^^^ 2 ^ 16 * b2 = 0 by omega)
  have l1 : b0 ^^^ 2 ^ 8 * b1 < 2 ^ 16 := Nat.xor_lt_two_pow (by omega) (by omega)
  have z2 : b2 = 0 := by omega
  subst z2
  have e1 := xor_inj (show b0 ^^^ 2 ^ 8 * b1 = 0 by omega)
  omega
/-- four bytes side by side are told -/
theorem four {s x0 x1 x2 x3 y0 y1 y2 y3 : Nat} (a0 : x0 < 256) (a1 : x1 < 256) (a2 : x2 < 256) (a3 : x3 < 256) (c0 : y0 < 256) (c1 : y1 < 256) (c2 : y2 < 256) (c3 : y3 < 256)
    (h : fold s [x0, x1, x2, x3] = fold s [y0, y1, y2, y3]) : x0 = y0 ∧ x1 = y1 ∧ x2 = y2 ∧ x3 = y3 := by
  have e := fold_xor [x0, x1, x2, x3] [y0, y1, y2, y3] s s rfl
  rw [h, Nat.xor_self, Nat.xor_self] at e
  have e2 : fold 0 [x0 ^^^ y0, x1 ^^^ y1, x2 ^^^ y2, x3 ^^^ y3] = 0 := e
  rw [fold_word] at e2
  have lt8 : ∀ {a b : Nat}, a < 256 → b < 256 → a ^^^ b < 256 := fun ha hb => Nat.xor_lt_two_pow (n := 8) ha hb
  obtain ⟨r0, r1, r2, r3⟩ := word_zero (lt8 a0 c0) (lt8 a1 c1) (lt8 a2 c2) (lt8 a3 c3) (bsn_ker 32 (word_lt (lt8 a0 c0) (lt8 a1 c1) (lt8 a2 c2) (lt8 a3 c3)) e2)
  exact ⟨xor_inj r0, xor_inj r1, xor_inj r2, xor_inj r3⟩
theorem sum_lt (l : List Nat) : sum l < 4294967296 := by unfold sum; omega
theorem sum_inj {l r : List Nat} (hl : ∀ b ∈ l, b < 256) (hr : ∀ b ∈ r, b < 256) (h : sum l = sum r) : fold 4294967295 l = fold 4294967295 r := by
  have h1 := fold_lt (s := 4294967295) (by omega) hl
  have h2 := fold_lt (s := 4294967295) (by omega) hr
  unfold sum at h; omega
/-- lists that differ within four bytes side by side have different sums -/
theorem tells {pre post : List Nat} {x0 x1 x2 x3 y0 y1 y2 y3 : Nat} (hp : ∀ b ∈ pre, b < 256) (hq : ∀ b ∈ post, b < 256)
    (a0 : x0 < 256) (a1 : x1 < 256) (a2 : x2 < 256) (a3 : x3 < 256) (c0 : y0 < 256) (c1 : y1 < 256) (c2 : y2 < 256) (c3 : y3 < 256)
    (h : sum (pre ++ ([x0, x1, x2, x3] ++ post)) = sum (pre ++ ([y0, y1, y2, y3] ++ post))) : x0 = y0 ∧ x1 = y1 ∧ x2 = y2 ∧ x3 = y3 := by
  have hb : ∀ {z0 z1 z2 z3 : Nat}, z0 < 256 → z1 < 256 → z2 < 256 → z3 < 256 → ∀ b ∈ [z0, z1, z2, z3], b < 256 := by
    intro z0 z1 z2 z3 h0 h1 h2 h3 b hb
    simp at hb
    rcases hb with rfl | rfl | rfl | rfl <;> assumption
  have hall : ∀ {z0 z1 z2 z3 : Nat}, z0 < 256 → z1 < 256 → z2 < 256 → z3 < 256 → ∀ b ∈ pre ++ ([z0, z1, z2, z3] ++ post), b < 256 := by
    intro z0 z1 z2 z3 h0 h1 h2 h3 b hm
    rcases List.mem_append.1 hm with hm | hm
    · exact hp b hm
    · rcases List.mem_append.1 hm with hm | hm
      · exact hb h0 h1 h2 h3 b hm
      · exact hq b hm
  have e := sum_inj (hall a0 a1 a2 a3) (hall c0 c1 c2 c3) h
  rw [fold_append, fold_append, fold_append, fold_append] at e
  have hs := fold_lt (s := 4294967295) (by omega) hp
  exact four a0 a1 a2 a3 c0 c1 c2 c3 (fold_inj (fold_lt hs (hb a0 a1 a2 a3)) (fold_lt hs (hb c0 c1 c2 c3)) hq e)
/-- all bits turned -/
theorem turned {x : Nat} (h : x < 4294967296) : 4294967295 - x = 4294967295 ^^^ x := by
  apply Nat.eq_of_testBit_eq
  intro i
  have e1 : (4294967295 - x).testBit i = (decide (i < 32) && !x.testBit i) := by
    rw [show 4294967295 - x = 2 ^ 32 - (x + 1) by omega]
    exact Nat.testBit_two_pow_sub_succ h i
  have e2 : Nat.testBit 4294967295 i = decide (i < 32) := by
    rw [show 4294967295 = 2 ^ 32 - 1 by rfl, Nat.testBit_two_pow_sub_one]
  rw [e1, Nat.testBit_xor, e2]
  by_cases hi : i < 32
  · simp [hi]
  · have : x.testBit i = false := Nat.testBit_lt_two_pow (Nat.lt_of_lt_of_le h (Nat.pow_le_pow_right (n := 2) (i := 32) (by omega) (by omega)))
    simp [hi, this]
theorem over_length : ∀ {l r : List Nat}, l.length = r.length → (over l r).length = l.length
  | [], [], _ => rfl
  | a :: l, b :: r, h => by show (over l r).length + 1 = _; rw [over_length (by simpa using h)]; rfl
  | [], _ :: _, h => by simp at h
  | _ :: _, [], h => by simp at h
theorem over_lt : ∀ {l r : List Nat}, (∀ b ∈ l, b < 256) → (∀ b ∈ r, b < 256) → ∀ b ∈ over l r, b < 256
  | a :: l, c :: r, hl, hr => by
    intro b hb
    rcases List.mem_cons.1 hb with rfl | hb
    · exact Nat.xor_lt_two_pow (n := 8) (hl a (List.mem_cons_self ..)) (hr c (List.mem_cons_self ..))
    · exact over_lt (fun d hd => hl d (List.mem_cons_of_mem _ hd)) (fun d hd => hr d (List.mem_cons_of_mem _ hd)) b hb
  | [], _, _, _ => by intro b hb; cases hb
  | _ :: _, [], _, _ => by intro b hb; cases hb
theorem over_self : ∀ (l : List Nat), ∀ s, fold s (over l l) = fold s (l.map fun _ => 0)
  | [], _ => rfl
  | a :: l, s => by show fold (by8 s (a ^^^ a)) (over l l) = fold (by8 s 0) _; rw [Nat.xor_self]; exact over_self l _
theorem fold_nought : ∀ (l : List Nat), fold 0 (l.map fun _ => 0) = 0
  | [] => rfl
  | a :: l => by show fold (by8 0 0) (l.map fun _ => 0) = 0; rw [show by8 0 0 = 0 from rfl]; exact fold_nought l
/-- three lists, and what they are laid over one another -/
theorem turns {a b c : List Nat} (hb : b.length = a.length) (hc : c.length = a.length) (ha' : ∀ x ∈ a, x < 256) (hb' : ∀ x ∈ b, x < 256) (hc' : ∀ x ∈ c, x < 256) :
    ((sum a ^^^ sum b) ^^^ sum c) ^^^ sum (over (over a b) c) = 0 := by
  have hab := over_length (l := a) (r := b) hb.symm
  have hd' := over_lt (over_lt ha' hb') hc'
  have l0 : (4294967295 : Nat) < 4294967296 := by omega
  have e1 := fold_xor a b 4294967295 4294967295 hb.symm
  have e2 := fold_xor (over a b) c (4294967295 ^^^ 4294967295) 4294967295 (by rw [hab, hc])
  rw [Nat.xor_self, Nat.zero_xor] at e2
  rw [Nat.xor_self] at e1
  unfold sum
  rw [turned (fold_lt l0 ha'), turned (fold_lt l0 hb'), turned (fold_lt l0 hc'), turned (fold_lt l0 hd'), e2, e1]
  generalize fold 4294967295 a = x
  generalize fold 4294967295 b = y
  generalize fold 4294967295 c = z
  apply Nat.eq_of_testBit_eq
  intro i
  simp only [Nat.testBit_xor, Nat.zero_testBit]
  cases Nat.testBit 4294967295 i <;> cases x.testBit i <;> cases y.testBit i <;> cases z.testBit i <;> rfl
end Go.Proofs.Ytkjlbginggppaaa.Cr


/- A row of bytes that lies in memory and is only read, told by a list of numbers. -/
namespace Go.Proofs.Ytkjlbginggppaaa
open Go.RowKit
set_option linter.unusedVariables false

/-- the slice's bytes are these -/
def Row (oa : Option Addr) (l : List Nat) (w : World) : Prop :=
  ∀ i : Nat, i < l.length → ∃ b off : Nat, oa = some ⟨b, off, none⟩ ∧ b < w.heap.size ∧ w.cell? ⟨b, off + i, none⟩ = some (.int .u8 ((l.getD i 0 : Nat) : Int))

theorem row_of {oa : Option Addr} {len : Nat} {w : World} (h : Ints .u8 oa len w) : ∃ l : List Nat, l.length = len ∧ (∀ x ∈ l, x < 256) ∧ Row oa l w := by
  suffices hs : ∀ n, n ≤ len → ∃ l : List Nat, l.length = n ∧ (∀ x ∈ l, x < 256) ∧ Row oa l w from hs len (Nat.le_refl _)
  intro n
  induction n with
  | zero => intro _; exact ⟨[], rfl, by simp, fun i hi => absurd hi (Nat.not_lt_zero _)⟩
  | succ n ih =>
    intro hn
    obtain ⟨l, hl, hb, hr⟩ := ih (by omega)
    obtain ⟨b, off, z, ho, hlt, hc, hz⟩ := h n (by omega)
    simp [Lit.wf, IntKind.min, IntKind.max, IntKind.bits, IntKind.signed] at hz
    refine ⟨l ++ [z.toNat], by simp [hl], ?_, ?_⟩
    · intro x hx
      rcases List.mem_append.1 hx with hx | hx
      · exact hb x hx
      · simp at hx; omega
    · intro i hi
      simp at hi
      by_cases e : i < l.length
      · obtain ⟨b, off, ho, hlt, hc⟩ := hr i e
        exact ⟨b, off, ho, hlt, by rw [hc]; simp [List.getD, List.getElem?_append_left e]⟩
      · obtain rfl : i = n := by omega
        refine ⟨b, off, ho, hlt, ?_⟩
        rw [hc]
        simp [List.getD, hl]
        omega

theorem Row.keep {oa : Option Addr} {l : List Nat} {w u : World} (h : Row oa l w) (hb : Below w.heap.size w u) : Row oa l u := by
  intro i hi
  obtain ⟨b, off, ho, hlt, hc⟩ := h i hi
  exact ⟨b, off, ho, Nat.lt_of_lt_of_le hlt hb.size, (hb.cell (p := ⟨b, off + i, none⟩) hlt).trans hc⟩
theorem Row.take {oa : Option Addr} {l : List Nat} {w : World} (h : Row oa l w) (n : Nat) : Row oa (l.take n) w := by
  intro i hi
  rw [List.length_take] at hi
  obtain ⟨b, off, ho, hlt, hc⟩ := h i (by omega)
  refine ⟨b, off, ho, hlt, ?_⟩
  rw [hc]
  simp [List.getD, show i < n by omega]
theorem byte_at {l : List Nat} (h : ∀ x ∈ l, x < 256) (i : Nat) : l.getD i 0 < 256 := by
  rw [List.getD_eq_getElem?_getD]
  cases e : l[i]? with
  | none => simp
  | some x => exact h x (List.mem_of_getElem? e)
theorem Cr.fold_take {l : List Nat} {i : Nat} (s : Nat) (h : i < l.length) : Cr.fold s (l.take (i + 1)) = Cr.by8 (Cr.fold s (l.take i)) (l.getD i 0) := by
  rw [List.take_add_one, List.getElem?_eq_getElem h]
  show Cr.fold s (l.take i ++ [l[i]]) = _
  rw [Cr.fold_snoc]
  simp [List.getD, List.getElem?_eq_getElem h]
namespace Cr
/-- a number's four bytes, the lowest one first -/
def four4 (n : Nat) : List Nat := [n % 256, n / 256 % 256, n / 65536 % 256, n / 16777216 % 256]
theorem four4_lt (n : Nat) : ∀ x ∈ four4 n, x < 256 := by
  intro x hx
  simp [four4] at hx
  omega
theorem four4_at (n : Nat) : ∀ k, k < 4 → (four4 n).getD k 0 = n / 256 ^ k % 256
  | 0, _ => by simp [four4]
  | 1, _ => by simp [four4]
  | 2, _ => by simp [four4]
  | 3, _ => by simp [four4]
theorem four4_take {n k : Nat} (s : Nat) (h : k < 4) : fold s ((four4 n).take (k + 1)) = by8 (fold s ((four4 n).take k)) (n / 256 ^ k % 256) := by
  rw [fold_take s (show k < (four4 n).length from h), four4_at n k h]
theorem pow_step (n k : Nat) : n / 256 ^ k / 256 = n / 256 ^ (k + 1) := by rw [Nat.div_div_eq_div_mul, Nat.pow_succ]
theorem take_lt {l : List Nat} (h : ∀ x ∈ l, x < 256) (k : Nat) : ∀ x ∈ l.take k, x < 256 := fun x hx => h x (List.mem_of_mem_take hx)
theorem append_lt {l r : List Nat} (h : ∀ x ∈ l, x < 256) (h' : ∀ x ∈ r, x < 256) : ∀ x ∈ l ++ r, x < 256 := by
  intro x hx
  rcases List.mem_append.1 hx with hx | hx
  · exact h x hx
  · exact h' x hx
theorem sum_eq {l : List Nat} (h : ∀ x ∈ l, x < 256) : ((sum l : Nat) : Int) = 4294967295 - ((fold 4294967295 l : Nat) : Int) := by
  have := fold_lt (s := 4294967295) (by omega) h
  unfold sum
  omega
end Cr
end Go.Proofs.Ytkjlbginggppaaa


/- A slice of bytes of the call's own, told by a list of numbers: append one byte, append a whole row. -/
namespace Go.Proofs.Ytkjlbginggppaaa
open Go.RowKit
set_option linter.unusedVariables false

def bv (x : Nat) : Value := .int .u8 (x : Int)
/-- v owns the bytes l, among the blocks from base on -/
def Own (base : Nat) (v : Value) (l : List Nat) (w : World) : Prop := w.ownsRow base 5 1 v l.length (l.map bv)
theorem info_u8 : (Try.prog.info? 5).map (fun i => (i.zero, i.size, i.bytes)) = some (some (.int .u8 0), 1, 1) := by kernel_rfl

theorem Own.nil (base : Nat) (w : World) : Own base (.slice none 0 0) [] w := World.ownsRow_nil _ _ _ _
theorem Own.alloc {base : Nat} {v : Value} {l : List Nat} {w : World} (h : Own base v l w) (o : Obj) : Own base v l (w.alloc o) := World.ownsRow.alloc h o
theorem Own.drew {base : Nat} {v : Value} {l : List Nat} {w : World} (h : Own base v l w) : Own base v l w.drew := h
/-- nothing that lay there has turned -/
theorem Own.keep {base : Nat} {v : Value} {l : List Nat} {w u : World} (h : Own base v l w) (hb : Below w.heap.size w u) : Own base v l u := by
  refine ⟨h.1, ?_⟩
  rcases h.2 with hn | ⟨g, cap, cur, rfl, hg, hgg, rest⟩
  · exact .inl hn
  · exact .inr ⟨g, cap, cur, rfl, hg, by rw [hb.block g (Array.getElem?_eq_some_iff.1 hgg).1]; exact hgg, rest⟩
/-- as a row that is read -/
theorem Own.row {base : Nat} {v : Value} {l : List Nat} {w : World} (h : Own base v l w) : ∃ oa cap, v = .slice oa l.length cap ∧ Row oa l w ∧ l.length ≤ maxLen := by
  have hcells := fun g hg => World.ownsRow.cells h (g := g) hg
  have hlt := World.ownsRow.lt h
  rcases h.2 with ⟨rfl, hn⟩ | ⟨g, cap, cur, rfl, hg, hgg, h1, h2, _⟩
  · exact ⟨none, 0, by rw [hn], fun i hi => absurd hi (by omega), by omega⟩
  · refine ⟨_, _, rfl, ?_, by omega⟩
    intro i hi
    refine ⟨g, 0, rfl, (hlt g rfl).2, ?_⟩
    have := hcells g rfl i (bv (l.getD i 0)) (by simp [bv, List.getD, List.getElem?_eq_getElem hi])
    rw [Addr.add_lit] at this
    exact this
/-- 'append(v, x)' of one byte, that was laid in block b -/
theorem wp_put {ops : Array Oper} {rest : List Oper} {o : Oper} {a : Act} {Q : Exit → Act → World → Prop} (w : World) (hgd : o.guard = none) (s x : Operand)
    (ho : o.op = .call { callee := .builtin .append, args := #[s, x], argTypes := #[25, 25] })
    (base : Nat) (v : Value) (l : List Nat) (hs : a.eval s = v) (hown : Own base v l w) (b z : Nat) (hx : a.eval x = .slice (some ⟨b, 0, none⟩) 1 1)
    (hc : w.cell? ⟨b, 0, none⟩ = some (.int .u8 (z : Int))) (hl : l.length + 1 ≤ 140737488355328) (hbase : base ≤ w.heap.size)
    (h : ∀ v' w', Own base v' (l ++ [z]) w' → Below base w w' → wpList Try.prog ops Q rest (a.put o.dst v') w') :
    wpList Try.prog ops Q (o :: rest) a w := by
  obtain ⟨i0, hi, hz0, hz1, hz2⟩ := info_parts info_u8
  refine wpList_append_own w hgd s x 25 ho base 5 i0 (.int .u8 0) 1 1 (by kernel_rfl) hi hz0 hz1 hz2 rfl (by decide) v l.length (l.map bv) hs hown ⟨b, 0, none⟩ 1 1 [bv z] hx rfl ?_ ?_ ?_ ?_ hbase ?_
  · intro j u hj
    match j, hj with
    | 0, hj => simp at hj; subst hj; simpa [Addr.add, bv] using hc
  · intro u hu; simp at hu; subst hu; rfl
  · unfold maxLen; omega
  · omega
  · intro v' w' ho' hg _
    refine h v' w' ?_ ((Below.refl _ _).grown hg hbase fun k hk => (World.ownsRow.lt hown k hk).1)
    simpa [Own] using ho'
/-- the same, as a step of a region that draws its order -/
theorem step_put {ops : Array Oper} {o : Oper} {a : Act} {w : World} {K : Act → World → Prop} {Q : Exit → Act → World → Prop} {E : Prop}
    (hgd : o.guard = none) (s x : Operand) (ho : o.op = Op.call { callee := Callee.builtin Builtin.append, args := #[s, x], argTypes := #[25, 25] })
    (base : Nat) (v : Value) (l : List Nat) (hs : a.eval s = v) (hown : Own base v l w) (b z : Nat) (hx : a.eval x = .slice (some ⟨b, 0, none⟩) 1 1)
    (hc : w.cell? ⟨b, 0, none⟩ = some (.int .u8 (z : Int))) (hl : l.length + 1 ≤ 140737488355328) (hbase : base ≤ w.heap.size)
    (h : ∀ v' w', Own base v' (l ++ [z]) w' → Below base w w' → K (a.put o.dst v') w') :
    if Region.wanted o (yielded ops a.tmps) = true then Oper.wp Try.prog o a w K Q else E := by
  have hw : Region.wanted o (yielded ops a.tmps) = true := by simp [Region.wanted, hgd]
  rw [if_pos hw]
  obtain ⟨i0, hi, hz0, hz1, hz2⟩ := info_parts info_u8
  obtain ⟨v', w', hrun, ho', hg, _⟩ := run_append_own (P := Try.prog) w base 25 o.type 5 i0 (.int .u8 0) 1 1 (by kernel_rfl) hi hz0 hz1 hz2 rfl (by decide) v l.length (l.map bv) hown ⟨b, 0, none⟩ 1 1 [bv z] rfl
    (by
      intro j u hj
      match j, hj with
      | 0, hj => simp at hj; subst hj; simpa [Addr.add, bv] using hc)
    (by intro u hu; simp at hu; subst hu; rfl) (by unfold maxLen; omega) (by omega) hbase
  unfold Oper.wp
  simp [execOp, ho, resolve, invoke, builtin, hs, hx, hrun, Result.andThen]
  refine h v' w' ?_ ((Below.refl _ _).grown hg hbase fun k hk => (World.ownsRow.lt hown k hk).1)
  simpa [Own] using ho'
/-- 'append(v, b...)' of a row of m bytes, 0 < m -/
theorem wp_putAll {ops : Array Oper} {rest : List Oper} {o : Oper} {a : Act} {Q : Exit → Act → World → Prop} (w : World) (hgd : o.guard = none) (s x : Operand)
    (ho : o.op = .call { callee := .builtin .append, args := #[s, x], argTypes := #[25, 25] })
    (base : Nat) (v : Value) (l : List Nat) (hs : a.eval s = v) (hown : Own base v l w) (oa : Option Addr) (r : List Nat) (m c : Nat) (hx : a.eval x = .slice oa m c) (hm : r.length = m)
    (hr : Row oa r w) (h0 : 0 < m) (hl : l.length + m ≤ 140737488355328) (hbase : base ≤ w.heap.size)
    (h : ∀ v' w', Own base v' (l ++ r) w' → Below base w w' → wpList Try.prog ops Q rest (a.put o.dst v') w') :
    wpList Try.prog ops Q (o :: rest) a w := by
  obtain ⟨i0, hi, hz0, hz1, hz2⟩ := info_parts info_u8
  obtain ⟨b, off, rfl, _, _⟩ := hr 0 (by omega)
  refine wpList_append_own w hgd s x 25 ho base 5 i0 (.int .u8 0) 1 1 (by kernel_rfl) hi hz0 hz1 hz2 rfl (by decide) v l.length (l.map bv) hs hown ⟨b, off, none⟩ m c (r.map bv) hx (by simp [hm]) ?_ ?_ ?_ ?_ hbase ?_
  · intro j u hj
    have hj' : j < r.length := by have := (List.getElem?_eq_some_iff.1 hj).1; simpa using this
    obtain ⟨b', off', e, _, hc⟩ := hr j hj'
    simp at e
    obtain ⟨rfl, rfl⟩ := e
    rw [Addr.add_lit, hc]
    simp [List.getElem?_eq_getElem hj'] at hj
    simp [← hj, bv, List.getD, List.getElem?_eq_getElem hj']
  · intro u hu
    simp at hu
    obtain ⟨y, _, rfl⟩ := hu
    rfl
  · unfold maxLen; omega
  · omega
  · intro v' w' ho' hg _
    refine h v' w' ?_ ((Below.refl _ _).grown hg hbase fun k hk => (World.ownsRow.lt hown k hk).1)
    simpa [Own, hm] using ho'

/-- block g holds these bytes, and may be written -/
def Lay (g : Nat) (l : List Nat) (u : World) : Prop :=
  g < u.heap.size ∧ ∀ k, k < l.length → u.cell? ⟨g, k, none⟩ = some (.int .u8 ((l.getD k 0 : Nat) : Int)) ∧ u.frozen? ⟨g, k, none⟩ = false
theorem Lay.keepB {g B : Nat} {l : List Nat} {u u' : World} (h : Lay g l u) (hb : Below B u u') (hg : g < B) : Lay g l u' :=
  ⟨Nat.lt_of_lt_of_le h.1 hb.size, fun k hk => ⟨(hb.cell (p := ⟨g, k, none⟩) hg).trans (h.2 k hk).1, (hb.frozen (p := ⟨g, k, none⟩) hg).trans (h.2 k hk).2⟩⟩
theorem Lay.keep {g : Nat} {l : List Nat} {u u' : World} (h : Lay g l u) (hb : Below u.heap.size u u') : Lay g l u' := h.keepB hb h.1
theorem Lay.drew {g : Nat} {l : List Nat} {u : World} (h : Lay g l u) : Lay g l u.drew := h.keep (Below.refl _ _).drew
theorem Lay.row {g : Nat} {l : List Nat} {u : World} (h : Lay g l u) : Row (some ⟨g, 0, none⟩) l u :=
  fun i hi => ⟨g, 0, rfl, h.1, by rw [Nat.zero_add]; exact (h.2 i hi).1⟩
theorem Lay.put {g i : Nat} {l : List Nat} {u : World} (h : Lay g l u) (hi : i < l.length) (x : Nat) : Lay g (l.set i x) (u.setCell ⟨g, i, none⟩ (.int .u8 (x : Int))) := by
  refine ⟨by simpa using h.1, fun k hk => ⟨?_, by rw [World.frozen?_setCell]; exact (h.2 k (by simpa using hk)).2⟩⟩
  rw [List.length_set] at hk
  by_cases e : k = i
  · subst e
    have := (h.2 k hk).1
    simp [World.cell?_setCell_same', this, List.getD, List.getElem?_set_self hk]
  · rw [World.cell?_setCell_other]
    · rw [(h.2 k hk).1]; simp [List.getD, List.getElem?_set_ne (Ne.symm e)]
    · simp
theorem Own.lay {base : Nat} {v : Value} {l : List Nat} {w : World} (h : Own base v l w) (h0 : 0 < l.length) : ∃ g cap, v = .slice (some ⟨g, 0, none⟩) l.length cap ∧ base ≤ g ∧ Lay g l w := by
  have hcells := fun g hg => World.ownsRow.cells h (g := g) hg
  have hlt := World.ownsRow.lt h
  rcases h.2 with ⟨rfl, hn⟩ | ⟨g, cap, cur, rfl, hg, hgg, h1, h2, _⟩
  · omega
  · refine ⟨g, cap, rfl, hg, (hlt g rfl).2, fun k hk => ⟨?_, by simp [World.frozen?, hgg]⟩⟩
    have := hcells g rfl k (bv (l.getD k 0)) (by simp [bv, List.getD, List.getElem?_eq_getElem hk])
    rw [Addr.add_lit, Nat.zero_add] at this
    exact this
end Go.Proofs.Ytkjlbginggppaaa


/- Rows of bytes, told by a list of numbers: the words of layer 5's texts (Row, Own) and those of layer 6's (RowOf, OwnL) say the same. -/
namespace Go.Proofs.Ytkjlbginggppaaa
open Go.RowKit
set_option linter.unusedVariables false

theorem Row.rowOf {oa : Option Addr} {l : List Nat} {w : World} (h : Row oa l w) : RowOf 1 byEnc oa l w := by
  intro i a hi
  have hl : i < l.length := (List.getElem?_eq_some_iff.1 hi).1
  obtain ⟨b, off, ho, hlt, hc⟩ := h i hl
  refine ⟨b, off, ho, hlt, fun j u hu => ?_⟩
  match j, hu with
  | 0, hu =>
    simp [byEnc] at hu
    rw [← hu, Nat.mul_one, Nat.add_zero, hc]
    simp [List.getD, hi]
theorem RowOf.row {oa : Option Addr} {l : List Nat} {w : World} (h : RowOf 1 byEnc oa l w) : Row oa l w := by
  intro i hi
  obtain ⟨b, off, ho, hlt, hc⟩ := h i _ (List.getElem?_eq_getElem hi)
  refine ⟨b, off, ho, hlt, ?_⟩
  have := hc 0 _ rfl
  rw [Nat.mul_one, Nat.add_zero] at this
  rw [this]
  simp [List.getD, List.getElem?_eq_getElem hi]
theorem Own.ownL {base : Nat} {v : Value} {l : List Nat} {w : World} (h : Own base v l w) : OwnL 5 1 byEnc v l w := by
  have e : l.flatMap byEnc = l.map bv := flat_one bv l
  unfold OwnL
  rw [e]
  refine ⟨h.1, ?_⟩
  rcases h.2 with hn | ⟨g, cap, cur, hv, hg, rest⟩
  · exact .inl hn
  · exact .inr ⟨g, cap, cur, hv, Nat.zero_le _, rest⟩
/-- the blocks of a slice that owns its bytes from base on -/
theorem OwnL.own {base : Nat} {v : Value} {l : List Nat} {w : World} (h : OwnL 5 1 byEnc v l w) (hb : ∀ k ∈ blk v, base ≤ k) : Own base v l w := by
  have e : l.flatMap byEnc = l.map bv := flat_one bv l
  unfold OwnL at h
  rw [e] at h
  refine ⟨h.1, ?_⟩
  rcases h.2 with hn | ⟨g, cap, cur, hv, hg, rest⟩
  · exact .inl hn
  · refine .inr ⟨g, cap, cur, hv, hb g ?_, rest⟩
    rw [hv]
    simp [blk, Value.ownBlock]
/-- what nothing old has turned in keeps -/
theorem RowOf.below {oa : Option Addr} {l : List Nat} {w u : World} (h : RowOf 1 byEnc oa l w) (hb : Below w.heap.size w u) : RowOf 1 byEnc oa l u := h.keep hb
/-- a part of a row -/
theorem RowOf.part {α : Type} {enc : α → List Value} {g off a m : Nat} {l : List α} {w : World} (h : RowOf 1 enc (some ⟨g, off, none⟩) l w) : RowOf 1 enc (some ⟨g, off + a, none⟩) ((l.drop a).take m) w := by
  intro i b hi
  have hi' : l[a + i]? = some b := by
    have h1 : i < m := by
      have := (List.getElem?_eq_some_iff.1 hi).1
      rw [List.length_take] at this
      omega
    rw [List.getElem?_take_of_lt h1, List.getElem?_drop] at hi
    exact hi
  obtain ⟨g', off', ho, hlt, hc⟩ := h _ _ hi'
  simp at ho
  obtain ⟨rfl, rfl⟩ := ho
  refine ⟨g, off + a, rfl, hlt, fun j u hu => ?_⟩
  have := hc j u hu
  rw [show off + (a + i) * 1 + j = off + a + i * 1 + j by omega] at this
  exact this
theorem RowOf.rest {α : Type} {enc : α → List Value} {g off a : Nat} {l : List α} {w : World} (h : RowOf 1 enc (some ⟨g, off, none⟩) l w) : RowOf 1 enc (some ⟨g, off + a, none⟩) (l.drop a) w := by
  have := h.part (a := a) (m := l.length)
  rw [List.take_of_length_le (by rw [List.length_drop]; omega)] at this
  exact this
/-- a row that has an element has an address -/
theorem RowOf.addr {α : Type} {enc : α → List Value} {sz : Nat} {oa : Option Addr} {l : List α} {w : World} (h : RowOf sz enc oa l w) (h0 : 0 < l.length) : ∃ g off, oa = some ⟨g, off, none⟩ := by
  obtain ⟨g, off, ho, _, _⟩ := h 0 _ (List.getElem?_eq_getElem h0)
  exact ⟨g, off, ho⟩
/-- a byte of a row -/
theorem RowOf.byte {g off i : Nat} {l : List Nat} {w : World} (h : RowOf 1 byEnc (some ⟨g, off, none⟩) l w) (hi : i < l.length) : w.cell? ⟨g, off + i, none⟩ = some (.int .u8 ((l.getD i 0 : Nat) : Int)) := by
  obtain ⟨g', off', ho, _, hc⟩ := h i _ (List.getElem?_eq_getElem hi)
  simp at ho
  obtain ⟨rfl, rfl⟩ := ho
  have := hc 0 _ rfl
  rw [Nat.mul_one, Nat.add_zero] at this
  rw [this]
  simp [List.getD, List.getElem?_eq_getElem hi]
/-- a byte of a slice of the call's own is written -/
theorem OwnL.byteSet {v : Value} {l : List Nat} {w : World} {g cap i x : Nat} (h : OwnL 5 1 byEnc v l w) (hv : v = .slice (some ⟨g, 0, none⟩) l.length cap) (hi : i < l.length) :
    OwnL 5 1 byEnc v (l.set i x) (w.setCell ⟨g, i, none⟩ (.int .u8 (x : Int))) :=
  OwnL.set (f := fun n : Nat => .int .u8 (n : Int)) h hv hi x
/-- a slice of bytes that came in -/
theorem bytes_row {oa : Option Addr} {len : Nat} {w : World} (h : Ints .u8 oa len w) : ∃ bs : List Nat, bs.length = len ∧ (∀ x ∈ bs, x < 256) ∧ RowOf 1 byEnc oa bs w := by
  obtain ⟨l, h1, h2, h3⟩ := row_of h
  exact ⟨l, h1, h2, h3.rowOf⟩
end Go.Proofs.Ytkjlbginggppaaa


/- Lists of lists of bytes that are read, whether two are the same, and that the program is awake (FgL). -/
namespace Go.Proofs.Ytkjlbginggppaaa
open Go.RowKit
set_option linter.unusedVariables false
set_option linter.unusedSimpArgs false

/-- v is a list of the lists of bytes Ls, which are only read -/
def LsAt (v : Value) (Ls : List (List Nat)) (w : World) : Prop :=
  ∃ (oa : Option Addr) (cap : Nat) (Q : List (List Nat × Value)), v = .slice oa Ls.length cap ∧ Ls.length ≤ cap ∧ RowOf 1 slEnc oa Q w ∧ Q.map Prod.fst = Ls ∧ ∀ q ∈ Q, BytesAt q.2 q.1 w
theorem LsAt.on {v : Value} {Ls : List (List Nat)} {w w' : World} (h : LsAt v Ls w) (ht : Turned [] w w') : LsAt v Ls w' := by
  obtain ⟨oa, cap, Q, hv, hc, hr, hq, hb⟩ := h
  exact ⟨oa, cap, Q, hv, hc, hr.turned ht (by simp), hq, fun q hm => (hb q hm).keep ht (by simp)⟩
theorem Lists.at {v : Value} {Ls : List (List Nat)} {w w' : World} (h : Lists v Ls w w') : LsAt v Ls w' := by
  obtain ⟨Q, ho, hm, hb, _⟩ := h
  obtain ⟨oa, cap, hv, hc, _, hr, _⟩ := ho.rowOf slEnc_len
  have hl : Q.length = Ls.length := by rw [← hm, List.length_map]
  exact ⟨oa, cap, Q, by rw [hv, hl], by omega, hr, hm, fun q hq => (hb q hq).1⟩
theorem LsAt.nil (w : World) : LsAt (.slice none 0 0) [] w := ⟨none, 0, [], rfl, Nat.le_refl _, fun i a hi => by simp at hi, rfl, by simp⟩
/-- what lies at a place of it -/
theorem LsAt.elem {oa : Option Addr} {n cap k : Nat} {Ls : List (List Nat)} {l : List Nat} {w : World} (h : LsAt (.slice oa n cap) Ls w) (hk : Ls[k]? = some l) :
    ∃ g o v, oa = some ⟨g, o, none⟩ ∧ g < w.heap.size ∧ w.cell? ⟨g, o + k, none⟩ = some v ∧ BytesAt v l w := by
  obtain ⟨oa', cap', Q, hv, hc, hr, hm, hb⟩ := h
  cases hv
  subst hm
  rw [List.getElem?_map] at hk
  obtain ⟨q, hq, rfl⟩ := Option.map_eq_some_iff.1 hk
  obtain ⟨g, o, rfl, hg, hcell⟩ := hr k q hq
  have := hcell 0 q.2 rfl
  rw [Nat.mul_one, Nat.add_zero] at this
  exact ⟨g, o, q.2, rfl, hg, this, hb q (List.mem_of_getElem? hq)⟩

namespace FgL
theorem zeros_lt (n : Nat) : ∀ x ∈ List.replicate n 0, x < 256 := by
  intro x hx
  have := List.eq_of_mem_replicate hx
  omega
theorem made_own {base n : Nat} {v : Value} {w : World} (h : w.ownsRow base 5 1 v n (madeCells (Value.int .u8 0).cells (n * 1)).toList) : OwnL 5 1 byEnc v (List.replicate n 0) w := by
  have e : (madeCells (Value.int .u8 0).cells (n * 1)).toList = (List.replicate n 0).flatMap byEnc := by
    have e2 : (List.replicate n 0).flatMap byEnc = (List.replicate n 0).map bv := flat_one bv _
    rw [e2]
    simp [madeCells, Value.cells, bv, Nat.mod_one]
    apply List.ext_getElem
    · simp
    · intro i h1 h2
      simp
  rw [e] at h
  unfold OwnL
  rw [List.length_replicate]
  refine ⟨h.1, ?_⟩
  rcases h.2 with hn | ⟨g, cap, cur, hv, hg, rest⟩
  · exact .inl hn
  · exact .inr ⟨g, cap, cur, hv, Nat.zero_le _, rest⟩
theorem grown_turned {w w' : World} (h : w.grownBy w' none) : Turned [] w w' := (Turned.refl [] w).grown h (by simp)
theorem seven_zeros (v : Value) (u : World) (h : OwnL 5 1 byEnc v (List.replicate 301 0) u) : Calls Try.prog 10 #[.int .u16 7, v] u fun e u' => ∃ g c ob cb, e = .returned (.tuple #[.slice (some ⟨g, 0, none⟩) 2 c, .int .i64 0]) ∧ g < u'.heap.size ∧ u'.cell? ⟨g, 0 + 1, none⟩ = some (.slice ob 4 cb) ∧ Turned [] u u' := by
  obtain ⟨oa, cap, rfl, hc, _, hr, _⟩ := h.rowOf byEnc_len
  refine (FgW.split_any 7 oa cap (List.replicate 301 0) u (by omega) hr (zeros_lt 301) hc).mono ?_
  rintro e u' (⟨h0, _⟩ | ⟨h1, _⟩ | ⟨_, v, rfl, hL, ht⟩)
  · rw [List.length_replicate] at h0; omega
  · rw [List.length_replicate] at h1; omega
  · obtain ⟨Q, ho, hm, hb, hf⟩ := hL
    have hmany : Fg.many (List.replicate 301 0) = 2 := by unfold Fg.many; rw [List.length_replicate]
    have hl : Q.length = 2 := by have := congrArg List.length hm; rw [List.length_map] at this; rw [this]; unfold Fg.split; rw [List.length_map, List.length_map, List.length_range, hmany]
    have hlt := ho.lt
    have hro := ho.rowOf slEnc_len
    rcases ho.2 with ⟨hv, hn⟩ | ⟨g, cap', cur, hv, _⟩
    · rw [hl] at hn; omega
    · obtain ⟨oa2, c2, hv2, hc2, _, hrow, _⟩ := hro
      have hv3 := hv
      rw [hv2] at hv3
      cases hv3
      obtain ⟨q, hq⟩ : ∃ q, Q[1]? = some q := ⟨_, List.getElem?_eq_getElem (by omega)⟩
      obtain ⟨g', o', e', _, hcell⟩ := hrow 1 q hq
      cases e'
      have h1 := hcell 0 q.2 rfl
      obtain ⟨ob, cb, hqv, _⟩ := (hb q (List.mem_of_getElem? hq)).1
      have hq1 : q.1.length = 4 := by
        have h2 : (Q.map Prod.fst)[1]? = some q.1 := by rw [List.getElem?_map, hq]; rfl
        rw [hm] at h2
        have h3 : ((Fg.split 7 (List.replicate 301 0)).map Fg.bytes)[1]? = some (Fg.bytes (Fg.part 7 (List.replicate 301 0) 1)) := by unfold Fg.split; rw [hmany]; rfl
        rw [h3] at h2
        rw [← Option.some.inj h2]
        show 3 + (Fg.piece (List.replicate 301 0) 1).length = 4
        rw [Fg.piece_len, List.length_replicate]
        omega
      rw [hq1] at hqv
      rw [hqv] at h1
      exact ⟨g, cap', ob, cb, by rw [hv2, hl], hlt g (by rw [hv]; simp [blk, Value.ownBlock]), h1, ht⟩
set_option maxRecDepth 20000 in
set_option maxHeartbeats 2000000 in
theorem awake_any (w : World) : Calls Try.prog 9 #[] w fun e w' => e = .returned (.bool true) ∧ Turned [] w w' := by
  obtain ⟨i0, hi, hz0, hz1, hz2⟩ := info_parts info_u8
  go_enter Try.func9, Try.ntmps9
  go_wp2_with (first | (at_make; refine wpList_make_full _ rfl _ _ 25 rfl 0 5 i0 (.int .u8 0) 1 (by kernel_rfl) hi hz0 hz1 .i64 .i64 _ _ 301 rfl rfl rfl rfl (by rw [hz2]; omega) (by unfold maxLen; omega) (Nat.zero_le _) ?_; intro w1 ho1 hg1; have T1 := grown_turned hg1; have R1 := made_own ho1; clear ho1 hg1) | (go_at_call 10; with_reducible refine (seven_zeros _ _ R1).mono ?_; rintro e w2 ⟨g, c, ob, cb, rfl, hg, hc, T2'⟩; have T2 := T1.trans T2' (by simp)))
  go_ret
  exact ⟨rfl, T2⟩

set_option maxRecDepth 20000 in
set_option maxHeartbeats 4000000 in
theorem same_any (va vb : Value) (La Lb : List (List Nat)) (w : World) (ha : LsAt va La w) (hb : LsAt vb Lb w) (hla : La.length ≤ 1099511627776) (hlb : Lb.length ≤ 1099511627776) (hma : ∀ l ∈ La, l.length ≤ 1099511627776) (hmb : ∀ l ∈ Lb, l.length ≤ 1099511627776) :
    Calls Try.prog 13 #[va, vb] w fun e w' => e = .returned (.bool (decide (La = Lb))) ∧ Turned [] w w' := by
  obtain ⟨oa, ca, Qa, rfl, ra⟩ := id ha
  obtain ⟨ob, cb, Qb, rfl, rb⟩ := id hb
  clear ra rb
  by_cases hlen : La.length = Lb.length
  · obtain ⟨n, hn⟩ : ∃ n, n = Lb.length := ⟨_, rfl⟩
    rw [hlen, ← hn] at ha ⊢
    rw [← hn] at hb
    have hn40 : (n : Int) ≤ 1099511627776 := by omega
    have HNA : Hid (La.length = n) := by show _ = _; omega
    have HNB : Hid (Lb.length = n) := hn.symm
    have HA : Hid (LsAt (.slice oa n ca) La w) := ha
    have HB : Hid (LsAt (.slice ob n cb) Lb w) := hb
    have HMA : Hid (∀ l ∈ La, l.length ≤ 1099511627776) := hma
    have HMB : Hid (∀ l ∈ Lb, l.length ≤ 1099511627776) := hmb
    clear ha hb hma hmb hlen hn hla hlb
    go_enter Try.func13, Try.ntmps13
    go_wp2_with fail
    go_loopw [5] (fun i wr => ∃ k : Nat, k ≤ n ∧ i = .int .i64 (k : Int) ∧ La.take k = Lb.take k ∧ Turned [] w wr) (fun i _ => n - (intOf i).toNat)
    case atStart => exact ⟨0, by omega, rfl, by simp, Turned.refl _ _⟩
    case round =>
      obtain ⟨k, hk, rfl, htk, hT2⟩ := hrel
      by_cases hlt : (k : Int) < (n : Int)
      · have hk1 : k < La.length := by rw [HNA.out]; omega
        have hk2 : k < Lb.length := by rw [HNB.out]; omega
        obtain ⟨a, hxa⟩ : ∃ a, La[k]? = some a := ⟨_, List.getElem?_eq_getElem hk1⟩
        obtain ⟨b, hxb⟩ : ∃ b, Lb[k]? = some b := ⟨_, List.getElem?_eq_getElem hk2⟩
        obtain ⟨g1, o1, v1, rfl, hg1, e1, B1⟩ := (HA.out.on hT2).elem hxa
        obtain ⟨g2, o2, v2, rfl, hg2, e2, B2⟩ := (HB.out.on hT2).elem hxb
        clear hk1 hk2
        obtain ⟨p1, c1, rfl, _, r1, _⟩ := B1
        obtain ⟨p2, c2, rfl, _, r2, _⟩ := B2
        have sm : ∀ u : World, Turned [] wr u → Calls Try.prog 16 #[.slice p1 a.length c1, .slice p2 b.length c2] u fun e u' => e = .returned (.bool (decide (a = b))) ∧ Turned [] wr u' := by
          intro u hu
          refine (BtL.same_any p1 p2 c1 c2 a b u (r1.turned hu (by simp)) (r2.turned hu (by simp)) (HMA.out _ (List.mem_of_getElem? hxa)) (HMB.out _ (List.mem_of_getElem? hxb))).mono ?_
          rintro e u' ⟨rfl, ht⟩
          exact ⟨rfl, hu.trans ht (by simp)⟩
        clear r1 r2
        by_cases hab : a = b
        · have HT : Hid (La.take (k + 1) = Lb.take (k + 1)) := by
            show _ = _
            rw [List.take_add_one, List.take_add_one, hxa, hxb, htk, hab]
          rw [decide_eq_true hab] at sm
          clear htk hxa hxb hab
          go_wp2_with fail
          go_region_with (go_at_call 16; with_reducible refine (sm _ (by repeat (first | exact Turned.refl _ _ | exact Turned.drew (Turned.refl _ _)))).mono ?_; rintro e w1 ⟨rfl, hT1⟩)
          all_goals go_wp2_with fail
          all_goals go_roundw
          all_goals first | exact ⟨k + 1, by omega, by go_num, HT.out, hT2.trans hT1 (by simp)⟩ | (simp [intOf]; omega)
        · have HN : Hid (decide (La = Lb) = false) := decide_eq_false (by rintro rfl; rw [hxa] at hxb; cases hxb; exact hab rfl)
          rw [decide_eq_false hab] at sm
          clear htk hxa hxb hab
          go_wp2_with fail
          go_region_with (go_at_call 16; with_reducible refine (sm _ (by repeat (first | exact Turned.refl _ _ | exact Turned.drew (Turned.refl _ _)))).mono ?_; rintro e w1 ⟨rfl, hT1⟩)
          all_goals go_wp2_with fail
          all_goals go_ret
          all_goals exact BtL.bool_ret HN.out.symm (hT2.trans hT1 (by simp))
      · have hk' : k = n := by omega
        rw [hk'] at htk
        have HE : Hid (decide (La = Lb) = true) := by
          show _ = _
          rw [List.take_of_length_le (by rw [HNA.out]; exact Nat.le_refl _), List.take_of_length_le (by rw [HNB.out]; exact Nat.le_refl _)] at htk
          simpa using htk
        clear htk
        go_wp2_with fail
        go_ret
        exact BtL.bool_ret HE.out.symm hT2
  · have HN : Hid (decide (La = Lb) = false) := decide_eq_false (by rintro rfl; exact hlen rfl)
    have hlen' : ¬ (La.length : Int) = (Lb.length : Int) := by omega
    go_enter Try.func13, Try.ntmps13
    go_wp2_with fail
    go_ret
    exact BtL.bool_ret HN.out.symm (Turned.refl _ _)
end FgL
end Go.Proofs.Ytkjlbginggppaaa


/- What Split answers on any bytes, for the laws (FgL); lists of bytes that lie below a block (LsIn). -/
namespace Go.Proofs.Ytkjlbginggppaaa
open Go.RowKit
set_option linter.unusedVariables false
set_option linter.unusedSimpArgs false

/-- a list of lists of bytes, all of it below block B -/
def LsIn (B : Nat) (v : Value) (Ls : List (List Nat)) (w : World) : Prop :=
  ∃ (oa : Option Addr) (cap : Nat) (Q : List (List Nat × Value)), v = .slice oa Ls.length cap ∧ Ls.length ≤ cap ∧ RowOf 1 slEnc oa Q w ∧ Q.map Prod.fst = Ls ∧ (∀ q ∈ Q, BytesAt q.2 q.1 w ∧ ∀ k ∈ rblk q.2, k < B) ∧ ∀ k ∈ rblk v, k < B
theorem LsIn.at {B : Nat} {v : Value} {Ls : List (List Nat)} {w : World} (h : LsIn B v Ls w) : LsAt v Ls w := by
  obtain ⟨oa, cap, Q, hv, hc, hr, hq, hb, _⟩ := h
  exact ⟨oa, cap, Q, hv, hc, hr, hq, fun q hm => (hb q hm).1⟩
theorem LsIn.on {B : Nat} {v : Value} {Ls : List (List Nat)} {w w' : World} {S : List Nat} (h : LsIn B v Ls w) (ht : Turned S w w') (hS : ∀ k ∈ S, B ≤ k) : LsIn B v Ls w' := by
  obtain ⟨oa, cap, Q, hv, hc, hr, hq, hb, hl⟩ := h
  refine ⟨oa, cap, Q, hv, hc, hr.turned ht fun a ha hk => ?_, hq, fun q hm => ⟨(hb q hm).1.keep ht fun k hk hs => ?_, (hb q hm).2⟩, hl⟩
  · have h1 := hl a.block (by rw [hv, ha]; simp [rblk])
    have := hS _ hk
    omega
  · have h1 := (hb q hm).2 k hk
    have := hS _ hs
    omega
theorem LsIn.elem {B : Nat} {oa : Option Addr} {n cap k : Nat} {Ls : List (List Nat)} {l : List Nat} {w : World} (h : LsIn B (.slice oa n cap) Ls w) (hk : Ls[k]? = some l) :
    ∃ g o v, oa = some ⟨g, o, none⟩ ∧ g < w.heap.size ∧ w.cell? ⟨g, o + k, none⟩ = some v ∧ BytesAt v l w ∧ ∀ k ∈ rblk v, k < B := by
  obtain ⟨oa', cap', Q, hv, hc, hr, hm, hb, hl⟩ := h
  cases hv
  subst hm
  rw [List.getElem?_map] at hk
  obtain ⟨q, hq, rfl⟩ := Option.map_eq_some_iff.1 hk
  obtain ⟨g, o, rfl, hg, hcell⟩ := hr k q hq
  have := hcell 0 q.2 rfl
  rw [Nat.mul_one, Nat.add_zero] at this
  exact ⟨g, o, q.2, rfl, hg, this, hb q (List.mem_of_getElem? hq)⟩
theorem LsIn.nil (B : Nat) (w : World) : LsIn B (.slice none 0 0) [] w := ⟨none, 0, [], rfl, Nat.le_refl _, fun i a hi => by simp at hi, rfl, by simp, by simp [rblk]⟩
theorem Lists.in {v : Value} {Ls : List (List Nat)} {w w' : World} (h : Lists v Ls w w') : LsIn w'.heap.size v Ls w' := by
  obtain ⟨Q, ho, hm, hb, _⟩ := h
  have hlt := ho.lt
  have hro := ho.rowOf slEnc_len
  have hl : Q.length = Ls.length := by rw [← hm, List.length_map]
  obtain ⟨oa, cap, hv, hc, _, hr, _⟩ := hro
  refine ⟨oa, cap, Q, by rw [hv, hl], by omega, hr, hm, fun q hq => ⟨(hb q hq).1, (hb q hq).1.lt⟩, ?_⟩
  rcases ho.2 with ⟨hv2, hn⟩ | ⟨g, cap', cur, hv2, _⟩
  · rw [hv2]; simp [rblk]
  · intro k hk
    rw [hv2] at hk
    simp [rblk] at hk
    subst hk
    exact hlt _ (by rw [hv2]; simp [blk, Value.ownBlock])

namespace Fg
/-- what Split answers: the number, the lists -/
def splitE (l : List Nat) : Int := if l.length = 0 then 1 else if 4000 < l.length then 3 else 0
def splitL (id : Nat) (l : List Nat) : List (List Nat) := if 1 ≤ l.length ∧ l.length ≤ 4000 then (split id l).map bytes else []
theorem splitE_ok {l : List Nat} (h : 1 ≤ l.length ∧ l.length ≤ 4000) : splitE l = 0 := by unfold splitE; rw [if_neg (by omega), if_neg (by omega)]
theorem splitL_ok {id : Nat} {l : List Nat} (h : 1 ≤ l.length ∧ l.length ≤ 4000) : splitL id l = (split id l).map bytes := if_pos h
theorem splitL_no {id : Nat} {l : List Nat} (h : ¬ (1 ≤ l.length ∧ l.length ≤ 4000)) : splitL id l = [] := if_neg h
theorem splitE_no {l : List Nat} (h : l.length = 0) : splitE l = 1 := if_pos h
theorem splitE_long {l : List Nat} (h : 4000 < l.length) : splitE l = 3 := by unfold splitE; rw [if_neg (by omega), if_pos h]
theorem parts_len (id : Nat) (l : List Nat) : ((split id l).map bytes).length = many l := by unfold split; rw [List.length_map, List.length_map, List.length_range]
theorem parts_at {id : Nat} {l : List Nat} {i : Nat} (h : i < many l) : ((split id l).map bytes)[i]? = some (bytes (part id l i)) := by
  unfold split
  rw [List.getElem?_map, List.getElem?_map, List.getElem?_range h]
  rfl
theorem bytes_len (p : P) : (bytes p).length = 3 + p.b.length := by unfold bytes head; simp; omega
theorem piece_lt {l : List Nat} (h : ∀ x ∈ l, x < 256) (i : Nat) : ∀ x ∈ piece l i, x < 256 := fun x hx => h x (List.mem_of_mem_drop (List.mem_of_mem_take hx))
theorem part_lt {id : Nat} {l : List Nat} {i : Nat} (hid : id < 65536) (h : ∀ x ∈ l, x < 256) (hl : l.length ≤ 4200) (hi : i < many l) : ∀ x ∈ bytes (part id l i), x < 256 := by
  have hf := part_formed hid hl hi
  have h1 := hf.n
  have h2 := hf.at_
  intro x hx
  unfold bytes head at hx
  rcases List.mem_append.1 hx with e | e
  · have h3 : (part id l i).id < 65536 := hid
    simp at e
    rcases e with e | e | e <;> omega
  · exact piece_lt h i x e
theorem splitL_sizes (id : Nat) (l : List Nat) : (splitL id l).length ≤ 14 ∧ ∀ y ∈ splitL id l, y.length ≤ 303 := by
  unfold splitL
  split
  · rename_i h
    refine ⟨by rw [parts_len]; unfold many; omega, fun y hy => ?_⟩
    obtain ⟨p, hp, rfl⟩ := List.mem_map.1 hy
    unfold split at hp
    obtain ⟨i, hi, rfl⟩ := List.mem_map.1 hp
    rw [bytes_len]
    show 3 + (piece l i).length ≤ 303
    rw [piece_len]
    omega
  · exact ⟨Nat.zero_le _, by simp⟩
end Fg

namespace FgL
theorem bytes_w (id size x : Nat) (hs : size < 65536) (hx : x < 256) (w : World) :
    Calls Try.prog 11 #[.agg #[.int .u16 (id : Int), .int .u16 (size : Int), .int .u8 (x : Int)]] w fun e w' => ∃ v, e = .returned v ∧ BytesAt v (Fg.msg size x) w' ∧ Turned [] w w' :=
  (bytes_any id size x hs hx w).mono fun e w' ⟨v, he, ho, ht, _⟩ => ⟨v, he, (own_bytes ho).1, ht⟩
theorem split_row (id : Nat) (oa : Option Addr) (n cap : Nat) (l : List Nat) (w : World) (hid : id < 65536) (h8 : ∀ x ∈ l, x < 256) (hn : l.length = n) (hc : n ≤ cap) (hr : RowOf 1 byEnc oa l w) :
    Calls Try.prog 10 #[.int .u16 (id : Int), .slice oa n cap] w fun e w' => ∃ v', e = .returned (.tuple #[v', .int .i64 (Fg.splitE l)]) ∧ LsIn w'.heap.size v' (Fg.splitL id l) w' ∧ Turned [] w w' := by
  subst hn
  refine (FgW.split_any id oa cap l w hid hr h8 hc).mono ?_
  rintro e w' (⟨h0, rfl, rfl⟩ | ⟨h1, rfl, rfl⟩ | ⟨h2, v, rfl, hL, ht⟩)
  · exact ⟨_, by rw [Fg.splitE_no h0], by rw [Fg.splitL_no (by omega)]; exact LsIn.nil _ _, Turned.refl _ _⟩
  · exact ⟨_, by rw [Fg.splitE_long h1], by rw [Fg.splitL_no (by omega)]; exact LsIn.nil _ _, Turned.refl _ _⟩
  · exact ⟨v, by rw [Fg.splitE_ok h2], by rw [Fg.splitL_ok h2]; exact hL.in, ht⟩
theorem split_in (id : Nat) (v : Value) (l : List Nat) (w : World) (hid : id < 65536) (h8 : ∀ x ∈ l, x < 256) (hb : BytesAt v l w) :
    Calls Try.prog 10 #[.int .u16 (id : Int), v] w fun e w' => ∃ v', e = .returned (.tuple #[v', .int .i64 (Fg.splitE l)]) ∧ LsIn w'.heap.size v' (Fg.splitL id l) w' ∧ Turned [] w w' := by
  obtain ⟨oa, cap, rfl, hc, hr, _⟩ := hb
  exact split_row id oa _ cap l w hid h8 rfl hc hr
theorem split_w (id : Nat) (v : Value) (l : List Nat) (w : World) (hid : id < 65536) (h8 : ∀ x ∈ l, x < 256) (hb : BytesAt v l w) :
    Calls Try.prog 10 #[.int .u16 (id : Int), v] w fun e w' => ∃ v', e = .returned (.tuple #[v', .int .i64 (Fg.splitE l)]) ∧ LsAt v' (Fg.splitL id l) w' ∧ Turned [] w w' :=
  (split_in id v l w hid h8 hb).mono fun e w' ⟨v', he, hL, ht⟩ => ⟨v', he, hL.at, ht⟩
theorem split_rowR (id : Nat) (oa : Option Addr) (n cap : Nat) (l : List Nat) (w : World) (hid : id < 65536) (hn : l.length = n) (hr : RowOf 1 byEnc oa l w) :
    Calls Try.prog 12 #[.int .u16 (id : Int), .slice oa n cap] w fun e w' => ∃ v', e = .returned (.tuple #[v', .int .i64 (Fg.splitE l)]) ∧ LsIn w'.heap.size v' (Fg.splitL id l) w' ∧ Turned [] w w' := by
  subst hn
  refine (FgR.split_any id oa cap l w hid hr).mono ?_
  rintro e w' (⟨h0, rfl, rfl⟩ | ⟨h1, rfl, rfl⟩ | ⟨h2, v, rfl, hL, ht⟩)
  · exact ⟨_, by rw [Fg.splitE_no h0], by rw [Fg.splitL_no (by omega)]; exact LsIn.nil _ _, Turned.refl _ _⟩
  · exact ⟨_, by rw [Fg.splitE_long h1], by rw [Fg.splitL_no (by omega)]; exact LsIn.nil _ _, Turned.refl _ _⟩
  · exact ⟨v, by rw [Fg.splitE_ok h2], by rw [Fg.splitL_ok h2]; exact hL.in, ht⟩
theorem split_r (id : Nat) (v : Value) (l : List Nat) (w : World) (hid : id < 65536) (hb : BytesAt v l w) :
    Calls Try.prog 12 #[.int .u16 (id : Int), v] w fun e w' => ∃ v', e = .returned (.tuple #[v', .int .i64 (Fg.splitE l)]) ∧ LsIn w'.heap.size v' (Fg.splitL id l) w' ∧ Turned [] w w' := by
  obtain ⟨oa, cap, rfl, hc, hr, _⟩ := hb
  exact split_rowR id oa _ cap l w hid rfl hr
theorem same_of (id : Nat) (l : List Nat) (va vb : Value) (w : World) (ha : LsAt va (Fg.splitL id l) w) (hb : LsAt vb (Fg.splitL id l) w) :
    Calls Try.prog 13 #[va, vb] w fun e w' => e = .returned (.bool true) ∧ Turned [] w w' := by
  obtain ⟨h1, h2⟩ := Fg.splitL_sizes id l
  have h3 : ∀ y ∈ Fg.splitL id l, y.length ≤ 1099511627776 := fun y hy => Nat.le_trans (h2 y hy) (by omega)
  refine (same_any va vb _ _ w ha hb (by omega) (by omega) h3 h3).mono ?_
  rintro e w' ⟨rfl, ht⟩
  exact ⟨by rw [decide_eq_true rfl], ht⟩
theorem u16_nat {a : Int} (h : (Lit.int .u16 a).wf = true) : ∃ n : Nat, a = (n : Int) ∧ n < 65536 := by
  simp [Lit.wf, IntKind.min, IntKind.max, IntKind.bits, IntKind.signed] at h
  exact ⟨a.toNat, by omega, by omega⟩
theorem u8_nat {a : Int} (h : (Lit.int .u8 a).wf = true) : ∃ n : Nat, a = (n : Int) ∧ n < 256 := by
  simp [Lit.wf, IntKind.min, IntKind.max, IntKind.bits, IntKind.signed] at h
  exact ⟨a.toNat, by omega, by omega⟩
/-- a message's three numbers, in their block -/
theorem three {B : Nat} {a b c : Value} {u w : World} (h : Struct B [a, b, c] w) (ht : Turned [] w u) : u.cell? ⟨B, 0, none⟩ = some a ∧ u.cell? ⟨B, 1, none⟩ = some b ∧ u.cell? ⟨B, 2, none⟩ = some c :=
  have h' := h.keep ht (by simp)
  ⟨(h'.2 0 _ rfl).1, (h'.2 1 _ rfl).1, (h'.2 2 _ rfl).1⟩
end FgL
end Go.Proofs.Ytkjlbginggppaaa


/- Parts that are fed one behind the other: the program's Feed over what is kept and what remains (Runs); one message's parts, one of them fed ahead (Tw). -/
namespace Go.Proofs.Ytkjlbginggppaaa
open Go.RowKit
set_option linter.unusedVariables false
set_option linter.unusedSimpArgs false

namespace Fg
/-- of the one message's N parts these remain: not k, from i on, c of them -/
structure Tw (N k i c : Nat) (R : List (Nat × Nat)) : Prop where
  mem : ∀ x : Nat × Nat, x ∈ R ↔ x.1 = 0 ∧ i ≤ x.2 ∧ x.2 < N ∧ x.2 ≠ k
  len : R.length = c
  nd : R.Nodup
/-- the one message -/
def sole (M : List Nat) : List (Nat × Nat) := start (fun m => m == 0) (fun _ => M)
theorem sole_mem {M : List Nat} {x : Nat × Nat} : x ∈ sole M ↔ x.1 = 0 ∧ x.2 < many M := by
  have h := start_mem (ok := fun m => m == 0) (b := fun _ => M) (m := x.1) (i := x.2)
  show x ∈ start _ _ ↔ _
  constructor
  · intro hx
    have h' := h.1 hx
    have h2 : x.1 = 0 := by simpa using h'.2.1
    exact ⟨h2, h'.2.2⟩
  · rintro ⟨h1, h2⟩
    exact h.2 ⟨by omega, by simpa using h1, h2⟩
theorem sole_nd (M : List Nat) : (sole M).Nodup := start_nodup _ _
theorem sole_len (M : List Nat) : (sole M).length = many M := by
  have h : (sole M).Perm ((List.range (many M)).map fun i => ((0 : Nat), i)) := (List.perm_ext_iff_of_nodup (sole_nd M) (row_nodup 0 _)).2 fun x => by
    rw [sole_mem, List.mem_map]
    constructor
    · rintro ⟨h1, h2⟩
      exact ⟨x.2, List.mem_range.2 h2, Prod.ext h1.symm rfl⟩
    · rintro ⟨i, hi, rfl⟩
      exact ⟨rfl, List.mem_range.1 hi⟩
  rw [h.length_eq, List.length_map, List.length_range]
theorem Tw.start {M : List Nat} {k : Nat} (hk : k < many M) : (sole M).Perm ((0, k) :: (sole M).erase (0, k)) ∧ Tw (many M) k 0 (many M - 1) ((sole M).erase (0, k)) := by
  have hm : ((0, k) : Nat × Nat) ∈ sole M := sole_mem.2 ⟨rfl, hk⟩
  refine ⟨List.perm_cons_erase hm, ?_, ?_, (sole_nd M).erase _⟩
  · intro x
    rw [(sole_nd M).mem_erase_iff, sole_mem]
    constructor
    · rintro ⟨h1, h2, h3⟩
      exact ⟨h2, Nat.zero_le _, h3, fun e => h1 (Prod.ext h2 e)⟩
    · rintro ⟨h1, _, h3, h4⟩
      exact ⟨fun e => h4 (congrArg Prod.snd e), h1, h3⟩
  · rw [List.length_erase_of_mem hm, sole_len]
theorem Tw.skip {N k c : Nat} {R : List (Nat × Nat)} (h : Tw N k k c R) : Tw N k (k + 1) c R :=
  ⟨fun x => (h.mem x).trans ⟨fun ⟨a, b, c, d⟩ => ⟨a, by omega, c, d⟩, fun ⟨a, b, c, d⟩ => ⟨a, by omega, c, d⟩⟩, h.len, h.nd⟩
theorem Tw.step {N k i c : Nat} {R : List (Nat × Nat)} (h : Tw N k i c R) (hi : i < N) (hne : i ≠ k) : R.Perm ((0, i) :: R.erase (0, i)) ∧ Tw N k (i + 1) (c - 1) (R.erase (0, i)) ∧ 1 ≤ c := by
  have hm : ((0, i) : Nat × Nat) ∈ R := (h.mem _).2 ⟨rfl, Nat.le_refl _, hi, hne⟩
  refine ⟨List.perm_cons_erase hm, ⟨?_, ?_, h.nd.erase _⟩, ?_⟩
  · intro x
    rw [h.nd.mem_erase_iff, h.mem]
    constructor
    · rintro ⟨h1, h2, h3, h4, h5⟩
      have : x.2 ≠ i := fun e => h1 (Prod.ext h2 e)
      exact ⟨h2, by omega, h4, h5⟩
    · rintro ⟨h1, h2, h3, h4⟩
      exact ⟨fun e => by have := congrArg Prod.snd e; simp at this; omega, h1, by omega, h3, h4⟩
  · rw [List.length_erase_of_mem hm, h.len]
  · rw [← h.len]; exact List.length_pos_of_mem hm
theorem Tw.cnt {N k i c : Nat} {R : List (Nat × Nat)} (h : Tw N k i c R) : cnt 0 R = c := by
  unfold Fg.cnt
  rw [List.filter_eq_self.2 fun x hx => by simpa using ((h.mem x).1 hx).1, h.len]
theorem Tw.done {N k c : Nat} {R : List (Nat × Nat)} (h : Tw N k N c R) : R = [] := by
  cases R with
  | nil => rfl
  | cons x R => have := (h.mem x).1 List.mem_cons_self; omega
end Fg

/-- block A is the program's assembler: K are kept, R remain -/
def Runs (A : Nat) (id : Nat → Nat) (b : Nat → List Nat) (K R : List (Nat × Nat)) (w : World) : Prop := ∃ L vL ms, PAsm A L vL ms w ∧ L.map Prod.fst = K.map (Fg.pt id b) ∧ Fg.Inv b K R ∧ ∀ k, PFoot L vL ms k → A < k
section
variable {A : Nat} {id : Nat → Nat} {b : Nat → List Nat} {K R R' : List (Nat × Nat)} {x : Nat × Nat} {w w' : World}
theorem Runs.keep {S : List Nat} (h : Runs A id b K R w) (ht : Turned S w w') (hs : ∀ k ∈ S, k < A) : Runs A id b K R w' := by
  obtain ⟨L, vL, ms, hp, hl, hi, hf⟩ := h
  exact ⟨L, vL, ms, hp.keep ht (fun hm => Nat.lt_irrefl _ (hs _ hm)) (fun k hk hm => by have := hf k hk; have := hs k hm; omega), hl, hi, hf⟩
theorem Runs.on (h : Runs A id b K R w) (ht : Turned [] w w') : Runs A id b K R w' := h.keep ht (by simp)
theorem Runs.new (t : TypeId) (h : Fg.Inv b [] R) : Runs w.heap.size id b [] R (w.alloc (.cells #[.slice none 0 0] t)) := ⟨[], .slice none 0 0, [], PAsm.new t, rfl, h, by
  rintro k (hk | ⟨m, hm, _⟩ | ⟨q, hq, _⟩)
  · simp [blk, Value.ownBlock] at hk
  · cases hm
  · cases hq⟩
theorem Runs.inv (h : Runs A id b K R w) : Fg.Inv b K R := h.choose_spec.choose_spec.choose_spec.2.2.1
theorem Runs.lt (h : Runs A id b K R w) : A < w.heap.size := h.choose_spec.choose_spec.choose_spec.1.st.1
/-- what holds of a part that remains -/
def PartOk (id : Nat → Nat) (b : Nat → List Nat) (x : Nat × Nat) : Prop := id x.1 < 65536 ∧ (∀ y ∈ b x.1, y < 256) ∧ (b x.1).length ≤ 4200
theorem feedB_pt (L : List Fg.P) (hx : PartOk id b x) (hi : x.2 < Fg.many (b x.1)) : Fg.feedB L (Fg.bytes (Fg.pt id b x)) = Fg.feed L (Fg.pt id b x) := by
  unfold Fg.feedB
  rw [Fg.read_bytes (show Fg.Formed (Fg.pt id b x) from Fg.part_formed hx.1 hx.2.2 hi)]
theorem feed_run (h : Runs A id b K R w) (hx : PartOk id b x) (hi : x.2 < Fg.many (b x.1)) {v : Value} (hb : BytesAt v (Fg.bytes (Fg.pt id b x)) w) {r : Fg.R} (hr : Fg.feed (K.map (Fg.pt id b)) (Fg.pt id b x) = r) {K' R' : List (Nat × Nat)} (hl : r.l = K'.map (Fg.pt id b)) (hinv : Fg.Inv b K' R') :
    Calls Try.prog 14 #[.pointer (some ⟨A, 0, none⟩), v] w fun e w' => ∃ va, e = .returned (.tuple #[va, .bool r.ok, .int .i64 r.e]) ∧ BytesAt va r.b w' ∧ Runs A id b K' R' w' ∧ Turned [A] w w' ∧ ∀ k ∈ rblk va, w.heap.size ≤ k := by
  obtain ⟨L, vL, ms, hp, hL, _, hf⟩ := h
  refine (FgW.feed_any A L vL ms w hp v _ hb (Fg.part_lt hx.1 hx.2.1 hx.2.2 hi)).mono ?_
  rintro e w' ⟨va, L', vL', ms', rfl, hb', hp', hl', ht, hf', hva⟩
  rw [hL, feedB_pt _ hx hi, hr] at hl' hb' ⊢
  refine ⟨va, rfl, hb', ⟨L', vL', ms', hp', by rw [hl', hl], hinv, fun k hk => ?_⟩, ht, hva⟩
  rcases hf' k hk with h1 | h1
  · exact hf k h1
  · exact Nat.lt_of_lt_of_le hp.st.1 h1
end
namespace FgL
variable {A : Nat} {id : Nat → Nat} {b : Nat → List Nat} {K R R' : List (Nat × Nat)} {x : Nat × Nat} {w : World} {v : Value}
/-- a part that isn't its message's last one -/
theorem feed_more (hid : ∀ m m', m < 4 → m' < 4 → id m = id m' → m = m') (h : Runs A id b K R w) (hx : PartOk id b x) (hb : BytesAt v (Fg.bytes (Fg.pt id b x)) w) (hp : R.Perm (x :: R')) (h1 : 0 < Fg.cnt x.1 R') :
    Calls Try.prog 14 #[.pointer (some ⟨A, 0, none⟩), v] w fun e w' => ∃ va, e = .returned (.tuple #[va, .bool false, .int .i64 0]) ∧ Runs A id b (K ++ [x]) R' w' ∧ Turned [A] w w' := by
  have hinv : Fg.Inv b K R := h.inv
  obtain ⟨h2, h3⟩ := Fg.step_some hid hinv hp h1
  refine (feed_run h hx (hinv.rgR x (hp.mem_iff.2 List.mem_cons_self)).2 hb h2 rfl h3).mono ?_
  rintro e w' ⟨va, rfl, _, hr, ht, _⟩
  exact ⟨va, rfl, hr, ht⟩
/-- a message's last part -/
theorem feed_last (hid : ∀ m m', m < 4 → m' < 4 → id m = id m' → m = m') (h : Runs A id b K R w) (hx : PartOk id b x) (hb : BytesAt v (Fg.bytes (Fg.pt id b x)) w) (hp : R.Perm (x :: R')) (h1 : Fg.cnt x.1 R' = 0) :
    Calls Try.prog 14 #[.pointer (some ⟨A, 0, none⟩), v] w fun e w' => ∃ va, e = .returned (.tuple #[va, .bool true, .int .i64 0]) ∧ BytesAt va (b x.1) w' ∧ Runs A id b (K.filter fun y => y.1 != x.1) R' w' ∧ Turned [A] w w' ∧ ∀ k ∈ rblk va, w.heap.size ≤ k := by
  have hinv : Fg.Inv b K R := h.inv
  obtain ⟨h2, h3⟩ := Fg.step_last hid hinv hp h1
  exact (feed_run h hx (hinv.rgR x (hp.mem_iff.2 List.mem_cons_self)).2 hb h2 rfl h3).mono fun e w' h => h
/-- once more -/
theorem feed_again (h : Runs A id b K R w) (hx : PartOk id b x) (hb : BytesAt v (Fg.bytes (Fg.pt id b x)) w) (hk : x ∈ K) :
    Calls Try.prog 14 #[.pointer (some ⟨A, 0, none⟩), v] w fun e w' => ∃ va, e = .returned (.tuple #[va, .bool false, .int .i64 8]) ∧ Runs A id b K R w' ∧ Turned [A] w w' := by
  have hinv : Fg.Inv b K R := h.inv
  refine (feed_run h hx (hinv.rgK x hk).2.1 hb (Fg.step_old hk) rfl hinv).mono ?_
  rintro e w' ⟨va, rfl, _, hr, ht, _⟩
  exact ⟨va, rfl, hr, ht⟩
/-- nothing waits when all have come -/
theorem waits_done (h : Runs A id b K [] w) : Calls Try.prog 17 #[.pointer (some ⟨A, 0, none⟩)] w fun e w' => e = .returned (.int .i64 0) ∧ Turned [] w w' := by
  obtain ⟨L, vL, ms, hp, hl, hi, _⟩ := h
  rw [hi.done] at hl
  refine (FgW.waits_any A L vL ms w hp).mono ?_
  rw [hl]
  exact fun e w' h => h
end FgL
end Go.Proofs.Ytkjlbginggppaaa


/- Four messages' parts: the law's own blocks (its messages, what is left of each, all parts and whose they are). -/
namespace Go.Proofs.Ytkjlbginggppaaa
open Go.RowKit
set_option linter.unusedVariables false
set_option linter.unusedSimpArgs false

/-- a list of lists of bytes, all of whose blocks lie between two -/
def LsB (lo hi : Nat) (v : Value) (Ls : List (List Nat)) (w : World) : Prop :=
  ∃ (oa : Option Addr) (cap : Nat) (Q : List (List Nat × Value)), v = .slice oa Ls.length cap ∧ Ls.length ≤ cap ∧ RowOf 1 slEnc oa Q w ∧ Q.map Prod.fst = Ls ∧ (∀ q ∈ Q, BytesAt q.2 q.1 w ∧ ∀ k ∈ rblk q.2, lo ≤ k ∧ k < hi) ∧ ∀ k ∈ rblk v, lo ≤ k ∧ k < hi
theorem LsB.on {lo hi : Nat} {v : Value} {Ls : List (List Nat)} {w w' : World} {S : List Nat} (h : LsB lo hi v Ls w) (ht : Turned S w w') (hS : ∀ k ∈ S, ¬ (lo ≤ k ∧ k < hi)) : LsB lo hi v Ls w' := by
  obtain ⟨oa, cap, Q, hv, hc, hr, hq, hb, hl⟩ := h
  refine ⟨oa, cap, Q, hv, hc, hr.turned ht fun a ha hk => hS _ hk (hl a.block (by rw [hv, ha]; simp [rblk])), hq, fun q hm => ⟨(hb q hm).1.keep ht fun k hk hs => hS _ hs ((hb q hm).2 k hk), (hb q hm).2⟩, hl⟩
theorem LsB.mono {lo lo' hi hi' : Nat} {v : Value} {Ls : List (List Nat)} {w : World} (h : LsB lo hi v Ls w) (h1 : lo' ≤ lo) (h2 : hi ≤ hi') : LsB lo' hi' v Ls w := by
  obtain ⟨oa, cap, Q, hv, hc, hr, hq, hb, hl⟩ := h
  exact ⟨oa, cap, Q, hv, hc, hr, hq, fun q hm => ⟨(hb q hm).1, fun k hk => by have := (hb q hm).2 k hk; omega⟩, fun k hk => by have := hl k hk; omega⟩
theorem LsB.elem {lo hi : Nat} {oa : Option Addr} {n cap k : Nat} {Ls : List (List Nat)} {l : List Nat} {w : World} (h : LsB lo hi (.slice oa n cap) Ls w) (hk : Ls[k]? = some l) :
    ∃ g o v, oa = some ⟨g, o, none⟩ ∧ g < w.heap.size ∧ w.cell? ⟨g, o + k, none⟩ = some v ∧ BytesAt v l w ∧ ∀ k ∈ rblk v, lo ≤ k ∧ k < hi := by
  obtain ⟨oa', cap', Q, hv, hc, hr, hm, hb, hl⟩ := h
  cases hv
  subst hm
  rw [List.getElem?_map] at hk
  obtain ⟨q, hq, rfl⟩ := Option.map_eq_some_iff.1 hk
  obtain ⟨g, o, rfl, hg, hcell⟩ := hr k q hq
  have := hcell 0 q.2 rfl
  rw [Nat.mul_one, Nat.add_zero] at this
  exact ⟨g, o, q.2, rfl, hg, this, hb q (List.mem_of_getElem? hq)⟩
theorem LsB.nil (lo hi : Nat) (w : World) : LsB lo hi (.slice none 0 0) [] w := ⟨none, 0, [], rfl, Nat.le_refl _, fun i a hi => by simp at hi, rfl, by simp, by simp [rblk]⟩
theorem Lists.inB {v : Value} {Ls : List (List Nat)} {w w' : World} (h : Lists v Ls w w') : LsB w.heap.size w'.heap.size v Ls w' := by
  obtain ⟨Q, ho, hm, hb, hlo⟩ := h
  have hlt := ho.lt
  have hro := ho.rowOf slEnc_len
  have hl : Q.length = Ls.length := by rw [← hm, List.length_map]
  obtain ⟨oa, cap, hv, hc, _, hr, _⟩ := hro
  refine ⟨oa, cap, Q, by rw [hv, hl], by omega, hr, hm, fun q hq => ⟨(hb q hq).1, fun k hk => ⟨((hb q hq).2 k hk).1, (hb q hq).1.lt k hk⟩⟩, ?_⟩
  rcases ho.2 with ⟨hv2, hn⟩ | ⟨g, cap', cur, hv2, _⟩
  · rw [hv2]; simp [rblk]
  · intro k hk
    have hk2 : k ∈ blk v := by
      rw [hv2] at hk ⊢
      simp [rblk] at hk
      subst hk
      simp [blk, Value.ownBlock]
    exact ⟨hlo k hk2, hlt k hk2⟩

namespace FgL
theorem split_new (id : Nat) (v : Value) (l : List Nat) (w : World) (hid : id < 65536) (h8 : ∀ x ∈ l, x < 256) (hb : BytesAt v l w) :
    Calls Try.prog 10 #[.int .u16 (id : Int), v] w fun e w' => ∃ o c, e = .returned (.tuple #[.slice o (Fg.splitL id l).length c, .int .i64 (Fg.splitE l)]) ∧ LsB w.heap.size w'.heap.size (.slice o (Fg.splitL id l).length c) (Fg.splitL id l) w' ∧ Turned [] w w' := by
  obtain ⟨oa, cap, rfl, hc, hr, _⟩ := hb
  refine (FgW.split_any id oa cap l w hid hr h8 hc).mono ?_
  rintro e w' (⟨h0, rfl, rfl⟩ | ⟨h1, rfl, rfl⟩ | ⟨h2, v, rfl, hL, ht⟩)
  · exact ⟨none, 0, by rw [Fg.splitE_no h0, Fg.splitL_no (by omega)]; rfl, by rw [Fg.splitL_no (by omega)]; exact LsB.nil _ _ _, Turned.refl _ _⟩
  · exact ⟨none, 0, by rw [Fg.splitE_long h1, Fg.splitL_no (by omega)]; rfl, by rw [Fg.splitL_no (by omega)]; exact LsB.nil _ _ _, Turned.refl _ _⟩
  · have hB := hL.inB
    obtain ⟨o, c, Q, rfl, rest⟩ := _root_.id hB
    exact ⟨o, c, by rw [Fg.splitE_ok h2, Fg.splitL_ok h2], by rw [Fg.splitL_ok h2]; exact hB, ht⟩
end FgL

/-- the four messages' cells; what is left of each -/
def mvals (id s x : Nat → Nat) : List Value := [.int .u16 (id 0 : Int), .int .u16 (s 0 : Int), .int .u8 (x 0 : Int), .int .u16 (id 1 : Int), .int .u16 (s 1 : Int), .int .u8 (x 1 : Int), .int .u16 (id 2 : Int), .int .u16 (s 2 : Int), .int .u8 (x 2 : Int), .int .u16 (id 3 : Int), .int .u16 (s 3 : Int), .int .u8 (x 3 : Int)]
def lvals (f : Nat → Nat) : List Value := [.int .i64 (f 0 : Int), .int .i64 (f 1 : Int), .int .i64 (f 2 : Int), .int .i64 (f 3 : Int)]
def upd (f : Nat → Nat) (m v : Nat) : Nat → Nat := fun j => if j = m then v else f j
theorem mvals_at {id s x : Nat → Nat} {m : Nat} (hm : m < 4) : (mvals id s x)[m * 3]? = some (.int .u16 (id m : Int)) ∧ (mvals id s x)[m * 3 + 1]? = some (.int .u16 (s m : Int)) ∧ (mvals id s x)[m * 3 + 2]? = some (.int .u8 (x m : Int)) := by
  match m, hm with
  | 0, _ => exact ⟨rfl, rfl, rfl⟩
  | 1, _ => exact ⟨rfl, rfl, rfl⟩
  | 2, _ => exact ⟨rfl, rfl, rfl⟩
  | 3, _ => exact ⟨rfl, rfl, rfl⟩
theorem mvals_set {id s x : Nat → Nat} {m v : Nat} (hm : m < 4) : (mvals id s x).set (m * 3) (.int .u16 (v : Int)) = mvals (upd id m v) s x := by
  match m, hm with
  | 0, _ => rfl
  | 1, _ => rfl
  | 2, _ => rfl
  | 3, _ => rfl
theorem lvals_at {f : Nat → Nat} {m : Nat} (hm : m < 4) : (lvals f)[m]? = some (.int .i64 (f m : Int)) := by
  match m, hm with
  | 0, _ => rfl
  | 1, _ => rfl
  | 2, _ => rfl
  | 3, _ => rfl
theorem lvals_set {f : Nat → Nat} {m v : Nat} (hm : m < 4) : (lvals f).set m (.int .i64 (v : Int)) = lvals (upd f m v) := by
  match m, hm with
  | 0, _ => rfl
  | 1, _ => rfl
  | 2, _ => rfl
  | 3, _ => rfl
theorem lvals_eq {f f' : Nat → Nat} (h : ∀ m, m < 4 → f m = f' m) : lvals f = lvals f' := by
  unfold lvals
  rw [h 0 (by omega), h 1 (by omega), h 2 (by omega), h 3 (by omega)]
theorem mvals_eq {f f' s x : Nat → Nat} (h : ∀ m, m < 4 → f m = f' m) : mvals f s x = mvals f' s x := by
  unfold mvals
  rw [h 0 (by omega), h 1 (by omega), h 2 (by omega), h 3 (by omega)]

/-! all parts, and whose they are, as they are piled up -/
def pvEnc (q : (Nat × Nat) × Value) : List Value := [q.2]
def pmEnc (q : (Nat × Nat) × Value) : List Value := [.int .i64 (q.1.1 : Int)]
theorem elem_int : ElemOk Try.prog 54 3 (.int .i64 0) 1 8 := ⟨by kernel_rfl, by kernel_rfl, rfl, by decide⟩
structure Piled (s0 : Nat) (id : Nat → Nat) (b : Nat → List Nat) (Q : List ((Nat × Nat) × Value)) (v5 v6 : Value) (w : World) : Prop where
  o5 : OwnL 25 1 pvEnc v5 Q w
  o6 : OwnL 3 1 pmEnc v6 Q w
  by_ : ∀ q ∈ Q, BytesAt q.2 (Fg.bytes (Fg.pt id b q.1)) w
  lo5 : ∀ k ∈ blk v5, s0 ≤ k
  lo6 : ∀ k ∈ blk v6, s0 ≤ k ∧ k ∉ blk v5
  loq : ∀ q ∈ Q, ∀ k ∈ rblk q.2, s0 ≤ k ∧ k ∉ blk v5 ∧ k ∉ blk v6
section
variable {s0 : Nat} {id : Nat → Nat} {b : Nat → List Nat} {Q : List ((Nat × Nat) × Value)} {v5 v6 : Value} {w w' : World}
theorem Piled.nil (s0 : Nat) (id : Nat → Nat) (b : Nat → List Nat) (w : World) : Piled s0 id b [] (.slice none 0 0) (.slice none 0 0) w :=
  ⟨OwnL.nil _ _ _ _, OwnL.nil _ _ _ _, by simp, by simp [blk, Value.ownBlock], by simp [blk, Value.ownBlock], by simp⟩
theorem Piled.keep {S : List Nat} (h : Piled s0 id b Q v5 v6 w) (ht : Turned S w w') (hS : ∀ k ∈ S, k < s0) : Piled s0 id b Q v5 v6 w' :=
  ⟨h.o5.keep ht fun k hk hm => by have := h.lo5 k hk; have := hS k hm; omega, h.o6.keep ht fun k hk hm => by have := (h.lo6 k hk).1; have := hS k hm; omega,
    fun q hq => (h.by_ q hq).keep ht fun k hk hm => by have := (h.loq q hq k hk).1; have := hS k hm; omega, h.lo5, h.lo6, h.loq⟩
/-- one part more, behind both appends -/
theorem Piled.push {v5' v6' : Value} {q : (Nat × Nat) × Value} {w1 w2 : World} {ob ob2 : Obj} (h : Piled s0 id b Q v5 v6 w) (hs0 : s0 ≤ w.heap.size)
    (hq : BytesAt q.2 (Fg.bytes (Fg.pt id b q.1)) w) (hqb : ∀ k ∈ rblk q.2, s0 ≤ k ∧ k ∉ blk v5 ∧ k ∉ blk v6)
    (ho1 : OwnL 25 1 pvEnc v5' (Q ++ [q]) w1) (ht1 : Turned (blk v5) (w.alloc ob) w1) (hb1 : blk v5' = blk v5 ∨ blk v5' = [(w.alloc ob).heap.size])
    (ho2 : OwnL 3 1 pmEnc v6' (Q ++ [q]) w2) (ht2 : Turned (blk v6) (w1.alloc ob2) w2) (hb2 : blk v6' = blk v6 ∨ blk v6' = [(w1.alloc ob2).heap.size]) :
    Piled s0 id b (Q ++ [q]) v5' v6' w2 ∧ Turned (blk v5 ++ blk v6) w w2 ∧ (∀ k ∈ blk v5', k ∈ blk v5 ∨ w.heap.size ≤ k) ∧ (∀ k ∈ blk v6', k ∈ blk v6 ∨ w.heap.size ≤ k) := by
  have hl5 := h.o5.lt
  have hl6 := h.o6.lt
  have T1 : Turned (blk v5) w w1 := ((Turned.refl (blk v5) w).alloc ob).trans ht1 fun k hk _ => hk
  have T2 : Turned (blk v6) w1 w2 := ((Turned.refl (blk v6) w1).alloc ob2).trans ht2 fun k hk _ => hk
  have hz1 := T1.size
  have hz2 : w.heap.size + 1 ≤ w1.heap.size := by have := ht1.size; simpa using this
  have n5 : ∀ k ∈ blk v5', k ∈ blk v5 ∨ w.heap.size ≤ k := by
    intro k hk
    rcases hb1 with e | e
    · rw [e] at hk; exact .inl hk
    · rw [e] at hk; simp at hk; exact .inr (by omega)
  have n6 : ∀ k ∈ blk v6', k ∈ blk v6 ∨ w.heap.size ≤ k := by
    intro k hk
    rcases hb2 with e | e
    · rw [e] at hk; exact .inl hk
    · rw [e] at hk; simp at hk; exact .inr (by omega)
  have n6' : ∀ k ∈ blk v6', k ∈ blk v6 ∨ w1.heap.size ≤ k := by
    intro k hk
    rcases hb2 with e | e
    · rw [e] at hk; exact .inl hk
    · rw [e] at hk; simp at hk; exact .inr (by omega)
  have hl5' := ho1.lt
  have T : Turned (blk v5 ++ blk v6) w w2 := (T1.mono fun k hk _ => List.mem_append_left _ hk).trans T2 fun k hk _ => List.mem_append_right _ hk
  have hqq : ∀ p ∈ Q ++ [q], BytesAt p.2 (Fg.bytes (Fg.pt id b p.1)) w ∧ ∀ k ∈ rblk p.2, s0 ≤ k ∧ k ∉ blk v5 ∧ k ∉ blk v6 := by
    intro p hp
    rcases List.mem_append.1 hp with e | e
    · exact ⟨h.by_ p e, h.loq p e⟩
    · rw [List.mem_singleton.1 e]; exact ⟨hq, hqb⟩
  refine ⟨⟨ho1.keep T2 fun k hk hm => ?_, ho2, fun p hp => (hqq p hp).1.keep T fun k hk hm => ?_, fun k hk => ?_, fun k hk => ⟨?_, fun hm => ?_⟩, fun p hp k hk => ⟨((hqq p hp).2 k hk).1, fun hm => ?_, fun hm => ?_⟩⟩, T, n5, n6⟩
  · rcases n5 k hk with e | e
    · exact (h.lo6 k hm).2 e
    · have := hl6 k hm; omega
  · rcases List.mem_append.1 hm with e | e
    · exact ((hqq p hp).2 k hk).2.1 e
    · exact ((hqq p hp).2 k hk).2.2 e
  · rcases n5 k hk with e | e
    · exact h.lo5 k e
    · omega
  · rcases n6 k hk with e | e
    · exact (h.lo6 k e).1
    · omega
  · rcases n6' k hk with e | e
    · rcases n5 k hm with e2 | e2
      · exact (h.lo6 k e).2 e2
      · have := hl6 k e; omega
    · have := hl5' k hm; omega
  · have := (hqq p hp).1.lt k hk
    rcases n5 k hm with e | e
    · exact ((hqq p hp).2 k hk).2.1 e
    · omega
  · have := (hqq p hp).1.lt k hk
    rcases n6 k hm with e | e
    · exact ((hqq p hp).2 k hk).2.2 e
    · omega
end
end Go.Proofs.Ytkjlbginggppaaa


/- Four messages' parts, one fed behind the other: what the law's blocks hold then. -/
namespace Go.Proofs.Ytkjlbginggppaaa
open Go.RowKit
set_option linter.unusedVariables false
set_option linter.unusedSimpArgs false

/-- one is taken out: the last one takes its place -/
def out1 {α : Type} (k : Nat) (Q : List α) : List α := match Q.getLast? with | none => [] | some z => (Q.set k z).dropLast
theorem out1_last {α : Type} {k : Nat} {Q : List α} {z : α} (hz : Q[Q.length - 1]? = some z) : out1 k Q = (Q.set k z).dropLast := by
  unfold out1
  rw [List.getLast?_eq_getElem?, hz]
theorem out1_map {α β : Type} (f : α → β) (k : Nat) (Q : List α) : (out1 k Q).map f = out1 k (Q.map f) := by
  unfold out1
  rw [List.getLast?_map]
  cases Q.getLast? with
  | none => rfl
  | some z => show ((Q.set k z).dropLast).map f = ((Q.map f).set k (f z)).dropLast; rw [List.map_dropLast, List.map_set]
theorem out1_out (k : Nat) (R : List (Nat × Nat)) : out1 k R = Fg.out k R := by
  unfold out1 Fg.out
  cases R.getLast? <;> rfl
theorem out1_len {α : Type} (k : Nat) (Q : List α) : (out1 k Q).length = Q.length - 1 := by
  unfold out1
  cases h : Q.getLast? with
  | none => rw [List.getLast?_eq_none_iff] at h; subst h; rfl
  | some z => show ((Q.set k z).dropLast).length = _; rw [List.length_dropLast, List.length_set]
theorem out1_mem {α : Type} {k : Nat} {Q : List α} {a : α} (h : a ∈ out1 k Q) : a ∈ Q := by
  unfold out1 at h
  cases hz : Q.getLast? with
  | none => rw [hz] at h; cases h
  | some z =>
    rw [hz] at h
    rcases List.mem_or_eq_of_mem_set ((List.dropLast_sublist _).subset h) with e | e
    · exact e
    · rw [e]; exact List.mem_of_getLast? hz
theorem Struct.dropLast {p : Nat} {cs : List Value} {w : World} (h : Struct p cs w) : Struct p cs.dropLast w :=
  ⟨h.1, fun j u hu => h.2 j u (by
    rw [List.getElem?_dropLast] at hu
    split at hu
    · exact hu
    · cases hu)⟩
def mOf (q : (Nat × Nat) × Value) : Value := .int .i64 (q.1.1 : Int)

structure Apart (A B D g h : Nat) : Prop where
  bA : B < A
  dA : D < A
  gA : g < A
  hA : h < A
  bd : B ≠ D
  bg : B ≠ g
  bh : B ≠ h
  dg : D ≠ g
  dh : D ≠ h
  gh : g ≠ h
/-- K are kept, Q remain; B: the messages, D: what is left of each, g: the parts, h: whose they are -/
structure Tail (A B D g h : Nat) (id s x : Nat → Nat) (b : Nat → List Nat) (K : List (Nat × Nat)) (Q : List ((Nat × Nat) × Value)) (w : World) : Prop where
  run : Runs A id b K (Q.map Prod.fst) w
  sB : Struct B (mvals id s x) w
  sD : Struct D (lvals fun m => Fg.cnt m (Q.map Prod.fst)) w
  sg : Struct g (Q.map Prod.snd) w
  sh : Struct h (Q.map mOf) w
  by_ : ∀ q ∈ Q, BytesAt q.2 (Fg.bytes (Fg.pt id b q.1)) w ∧ ∀ k ∈ rblk q.2, k < A ∧ k ≠ D ∧ k ≠ g ∧ k ≠ h
section
variable {A B D g h : Nat} {id s x : Nat → Nat} {b : Nat → List Nat} {K K' : List (Nat × Nat)} {Q : List ((Nat × Nat) × Value)} {q z : (Nat × Nat) × Value} {k c : Nat} {w u1 u3 : World}
theorem Tail.fed (hA : Apart A B D g h) (ht : Tail A B D g h id s x b K Q w) (h1 : Turned [A] w u1) : Struct B (mvals id s x) u1 ∧ Struct D (lvals fun m => Fg.cnt m (Q.map Prod.fst)) u1 ∧ Struct g (Q.map Prod.snd) u1 ∧ Struct h (Q.map mOf) u1 := by
  have a1 := hA.bA
  have a2 := hA.dA
  have a3 := hA.gA
  have a4 := hA.hA
  exact ⟨ht.sB.keep h1 (by simp; omega), ht.sD.keep h1 (by simp; omega), ht.sg.keep h1 (by simp; omega), ht.sh.keep h1 (by simp; omega)⟩
/-- what is left is written -/
theorem Tail.left (hA : Apart A B D g h) (ht : Tail A B D g h id s x b K Q w) (h1 : Turned [A] w u1) (v : Value) (o : Nat) :
    Struct B (mvals id s x) (u1.setCell ⟨D, o, none⟩ v) ∧ Struct g (Q.map Prod.snd) (u1.setCell ⟨D, o, none⟩ v) ∧ Struct h (Q.map mOf) (u1.setCell ⟨D, o, none⟩ v) := by
  obtain ⟨s1, s2, s3, s4⟩ := ht.fed hA h1
  have T : Turned [D] u1 (u1.setCell ⟨D, o, none⟩ v) := (Turned.refl [D] u1).setCell (p := ⟨D, o, none⟩) (.inl (by simp)) v
  have b1 := hA.bd
  have b2 := hA.dg
  have b3 := hA.dh
  exact ⟨s1.keep T (by simp; omega), s3.keep T (by simp; omega), s4.keep T (by simp; omega)⟩
theorem Tail.step (hA : Apart A B D g h) (ht : Tail A B D g h id s x b K Q w) (hk : Q[k]? = some q) (hz : Q[Q.length - 1]? = some z) (hm : q.1.1 < 4)
    (hr : Runs A id b K' (Fg.out k (Q.map Prod.fst)) u1) (h1 : Turned [A] w u1) (hc : c = Fg.cnt q.1.1 (Fg.out k (Q.map Prod.fst))) (h3 : Turned [] (u1.setCell ⟨D, q.1.1, none⟩ (.int .i64 (c : Int))) u3) :
    Tail A B D g h id s x b K' (out1 k Q) ((u3.setCell ⟨g, k, none⟩ z.2).setCell ⟨h, k, none⟩ (.int .i64 (z.1.1 : Int))) ∧ Turned [A, D, g, h] w ((u3.setCell ⟨g, k, none⟩ z.2).setCell ⟨h, k, none⟩ (.int .i64 (z.1.1 : Int))) := by
  obtain ⟨s1, s2, s3, s4⟩ := ht.fed hA h1
  obtain ⟨a1, a2, a3, a4, b1, b2, b3, b4, b5, b6⟩ := hA
  have hkl : k < Q.length := (List.getElem?_eq_some_iff.1 hk).1
  have T2 : Turned [D] u1 (u1.setCell ⟨D, q.1.1, none⟩ (.int .i64 (c : Int))) := (Turned.refl [D] u1).setCell (p := ⟨D, q.1.1, none⟩) (.inl (by simp)) _
  have T3 : Turned [D] u1 u3 := T2.trans h3 (by simp)
  have T4 : Turned [g] u3 (u3.setCell ⟨g, k, none⟩ z.2) := (Turned.refl [g] u3).setCell (p := ⟨g, k, none⟩) (.inl (by simp)) _
  have T5 : Turned [h] (u3.setCell ⟨g, k, none⟩ z.2) ((u3.setCell ⟨g, k, none⟩ z.2).setCell ⟨h, k, none⟩ (.int .i64 (z.1.1 : Int))) := (Turned.refl [h] _).setCell (p := ⟨h, k, none⟩) (.inl (by simp)) _
  have TT : Turned [D, g, h] u1 ((u3.setCell ⟨g, k, none⟩ z.2).setCell ⟨h, k, none⟩ (.int .i64 (z.1.1 : Int))) := ((T3.mono (S' := [D, g, h]) (by simp)).trans T4 (by simp)).trans T5 (by simp)
  have TA : Turned [A, D, g, h] w ((u3.setCell ⟨g, k, none⟩ z.2).setCell ⟨h, k, none⟩ (.int .i64 (z.1.1 : Int))) := (h1.mono (S' := [A, D, g, h]) (by simp)).trans TT (by intro k hk _; exact List.mem_cons_of_mem _ hk)
  have hs2 : Struct D (lvals fun m => Fg.cnt m (Fg.out k (Q.map Prod.fst))) (u1.setCell ⟨D, q.1.1, none⟩ (.int .i64 (c : Int))) := by
    have := s2.set (i := q.1.1) (by show _ < 4; exact hm) (.int .i64 (c : Int))
    rw [lvals_set hm] at this
    have e : lvals (upd (fun m => Fg.cnt m (Q.map Prod.fst)) q.1.1 c) = lvals fun m => Fg.cnt m (Fg.out k (Q.map Prod.fst)) := lvals_eq fun m hm => by
      have hp := Fg.out_perm (k := k) (R := Q.map Prod.fst) (x := q.1) (by rw [List.getElem?_map, hk]; rfl)
      unfold upd
      split
      · rename_i e; rw [hc, e]
      · rename_i e; exact Fg.cnt_other hp e
    rw [e] at this
    exact this
  have he : (out1 k Q).map Prod.fst = Fg.out k (Q.map Prod.fst) := by rw [out1_map, out1_out]
  refine ⟨⟨?_, ?_, ?_, ?_, ?_, ?_⟩, TA⟩
  · rw [he]
    exact hr.keep TT (by simp; omega)
  · exact s1.keep TT (by simp; omega)
  · rw [he]
    exact ((hs2.keep h3 (by simp)).keep T4 (by simp; omega)).keep T5 (by simp; omega)
  · have h4 := (((s3.keep T3 (by simp; omega)).set (i := k) (by rw [List.length_map]; exact hkl) z.2).dropLast).keep T5 (by simp; omega)
    rw [out1_last hz, List.map_dropLast, List.map_set]
    exact h4
  · have h4 := (((s4.keep T3 (by simp; omega)).keep T4 (by simp; omega)).set (i := k) (by rw [List.length_map]; exact hkl) (.int .i64 (z.1.1 : Int))).dropLast
    rw [out1_last hz, List.map_dropLast, List.map_set]
    exact h4
  · intro p hp
    obtain ⟨e1, e2⟩ := ht.by_ p (out1_mem hp)
    exact ⟨e1.keep TA fun j hj hm => by have := e2 j hj; simp at hm; omega, e2⟩
end

/-! the four messages' words -/
namespace Fg
def wid (q : Nat → Nat) (m : Nat) : Nat := q m % 4096 * 4 + m
def idAt (q : Nat → Nat) (i : Nat) : Nat → Nat := fun j => if j < i then wid q j else q j
def wb (s x : Nat → Nat) (m : Nat) : List Nat := msg (s m) (x m)
def wok (s x : Nat → Nat) (m : Nat) : Bool := decide (1 ≤ (wb s x m).length ∧ (wb s x m).length ≤ 4000)
def upto (ok : Nat → Bool) (b : Nat → List Nat) (i : Nat) : List (Nat × Nat) := (List.range i).flatMap fun m => if ok m = true then (List.range (many (b m))).map fun j => (m, j) else []
def leftAt (ok : Nat → Bool) (b : Nat → List Nat) (i : Nat) : Nat → Nat := fun m => if m < i ∧ ok m = true then many (b m) else 0
theorem wid_inj (q : Nat → Nat) : ∀ m m', m < 4 → m' < 4 → wid q m = wid q m' → m = m' := fun m m' h h' e => by unfold wid at e; omega
theorem wid_lt (q : Nat → Nat) {m : Nat} (h : m < 4) : wid q m < 65536 := by unfold wid; omega
theorem idAt_next (q : Nat → Nat) (i : Nat) : upd (idAt q i) i (wid q i) = idAt q (i + 1) := by
  funext j
  unfold upd idAt
  by_cases e : j = i
  · rw [if_pos e, if_pos (by omega), e]
  · rw [if_neg e]
    by_cases h : j < i
    · rw [if_pos h, if_pos (by omega)]
    · rw [if_neg h, if_neg (by omega)]
theorem upto_next (ok : Nat → Bool) (b : Nat → List Nat) (i : Nat) : upto ok b (i + 1) = upto ok b i ++ (if ok i = true then (List.range (many (b i))).map fun j => (i, j) else []) := by
  unfold upto
  rw [List.range_succ, List.flatMap_append, List.flatMap_singleton]
theorem upto_all (ok : Nat → Bool) (b : Nat → List Nat) : upto ok b 4 = start ok b := rfl
theorem leftAt_yes {ok : Nat → Bool} (b : Nat → List Nat) {i : Nat} (h : ok i = true) : upd (leftAt ok b i) i (many (b i)) = leftAt ok b (i + 1) := by
  funext j
  unfold upd leftAt
  by_cases e : j = i
  · rw [if_pos e, if_pos (by rw [e]; exact ⟨by omega, h⟩), e]
  · rw [if_neg e]
    by_cases h2 : j < i ∧ ok j = true
    · rw [if_pos h2, if_pos ⟨by omega, h2.2⟩]
    · rw [if_neg h2, if_neg (fun h3 => h2 ⟨by omega, h3.2⟩)]
theorem leftAt_no {ok : Nat → Bool} (b : Nat → List Nat) {i : Nat} (h : ok i = false) : leftAt ok b i = leftAt ok b (i + 1) := by
  funext j
  unfold leftAt
  by_cases h2 : j < i ∧ ok j = true
  · rw [if_pos h2, if_pos ⟨by omega, h2.2⟩]
  · rw [if_neg h2, if_neg (fun h3 => h2 ⟨by
      have : j ≠ i := fun e => by rw [e, h] at h3; cases h3.2
      omega, h3.2⟩)]
theorem cnt_start (ok : Nat → Bool) (b : Nat → List Nat) {m : Nat} (hm : m < 4) : cnt m (start ok b) = leftAt ok b 4 m := by
  have n1 : ((start ok b).filter fun y => y.1 == m).Nodup := List.Pairwise.sublist List.filter_sublist (start_nodup ok b)
  have n2 : (if ok m = true then (List.range (many (b m))).map (fun i => (m, i)) else []).Nodup := by
    split
    · exact row_nodup m _
    · exact List.nodup_nil
  have h : ((start ok b).filter fun y => y.1 == m).Perm (if ok m = true then (List.range (many (b m))).map (fun i => (m, i)) else []) := (List.perm_ext_iff_of_nodup n1 n2).2 fun y => by
    rw [List.mem_filter, show y ∈ start ok b ↔ _ from start_mem (m := y.1) (i := y.2)]
    constructor
    · rintro ⟨⟨h1, h2, h3⟩, h4⟩
      have e : y.1 = m := by simpa using h4
      rw [if_pos (by rw [← e]; exact h2)]
      exact List.mem_map.2 ⟨y.2, List.mem_range.2 (by rw [← e]; exact h3), Prod.ext e.symm rfl⟩
    · intro hy
      split at hy
      · rename_i hok
        obtain ⟨i, hi, rfl⟩ := List.mem_map.1 hy
        exact ⟨⟨hm, hok, List.mem_range.1 hi⟩, by simp⟩
      · cases hy
  unfold cnt
  rw [h.length_eq]
  unfold leftAt
  split
  · rename_i hok; rw [if_pos ⟨hm, hok⟩, List.length_map, List.length_range]
  · rename_i hok; rw [if_neg fun h => hok h.2]; rfl
theorem wb_len (s x : Nat → Nat) (m : Nat) : (wb s x m).length < 4200 := by unfold wb; rw [msg_len]; omega
theorem many_le (s x : Nat → Nat) (m : Nat) : many (wb s x m) ≤ 14 := by have := wb_len s x m; unfold many; omega
theorem upto_len (ok : Nat → Bool) (s x : Nat → Nat) : ∀ i, (upto ok (wb s x) i).length ≤ 14 * i
  | 0 => Nat.zero_le _
  | i + 1 => by
    rw [upto_next, List.length_append]
    have := upto_len ok s x i
    have := many_le s x i
    split
    · rw [List.length_map, List.length_range]; omega
    · simp; omega
end Fg
theorem who_ok (q s x : Nat → Nat) {y : Nat × Nat} (h : y.1 < 4) : PartOk (Fg.wid q) (Fg.wb s x) y := ⟨Fg.wid_lt q h, Fg.msg_lt _ _, Nat.le_of_lt (Fg.wb_len s x y.1)⟩
end Go.Proofs.Ytkjlbginggppaaa


/- Four messages' parts, all piled up: where the law's second half begins. -/
namespace Go.Proofs.Ytkjlbginggppaaa
open Go.RowKit
set_option linter.unusedVariables false
set_option linter.unusedSimpArgs false

theorem own_struct {α : Type} {e : TypeId} {f : α → Value} {v : Value} {Q : List α} {w : World} (h : OwnL e 1 (fun a => [f a]) v Q w) (h0 : 0 < Q.length) :
    ∃ g cap, v = .slice (some ⟨g, 0, none⟩) Q.length cap ∧ blk v = [g] ∧ Q.length ≤ cap ∧ Struct g (Q.map f) w := by
  obtain ⟨g, cap, hv, hb, hg, _⟩ := h.cell (fun _ _ => rfl) (i := 0) (a := Q[0]) (List.getElem?_eq_getElem h0)
  obtain ⟨oa, cap', hv2, hc, _⟩ := h.form
  have e := hv2
  rw [hv] at e
  cases e
  refine ⟨g, cap, hv, hb, hc, hg, fun j u hj => ?_⟩
  rw [List.getElem?_map] at hj
  obtain ⟨a, ha, rfl⟩ := Option.map_eq_some_iff.1 hj
  obtain ⟨g', cap', hv', _, _, hcell⟩ := h.cell (fun _ _ => rfl) ha
  rw [hv] at hv'
  cases hv'
  have := hcell 0 _ rfl
  rw [Nat.mul_one, Nat.add_zero] at this
  exact this
theorem tail_start {z0 B D g h : Nat} {id s x : Nat → Nat} {b : Nat → List Nat} {ok : Nat → Bool} {Q : List ((Nat × Nat) × Value)} {v5 v6 : Value} {w : World} (hP : Piled z0 id b Q v5 v6 w) (hq : Q.map Prod.fst = Fg.start ok b)
    (hB : Struct B (mvals id s x) w) (hD : Struct D (lvals (Fg.leftAt ok b 4)) w) (b1 : B < z0) (b2 : D < z0) (b3 : B ≠ D) (hg : blk v5 = [g]) (hh : blk v6 = [h])
    (hsg : Struct g (Q.map Prod.snd) w) (hsh : Struct h (Q.map mOf) w) (t : TypeId) :
    Apart w.heap.size B D g h ∧ Tail w.heap.size B D g h id s x b [] Q (w.alloc (.cells #[.slice none 0 0] t)) := by
  have T : Turned [] w (w.alloc (.cells #[.slice none 0 0] t)) := (Turned.refl [] w).alloc _
  have g0 : z0 ≤ g := hP.lo5 g (by rw [hg]; simp)
  have h0 : z0 ≤ h ∧ g ≠ h := by
    have := hP.lo6 h (by rw [hh]; simp)
    rw [hg] at this
    simp at this
    exact ⟨this.1, fun e => this.2 e.symm⟩
  refine ⟨⟨hB.1, hD.1, hsg.1, hsh.1, b3, by omega, by omega, by omega, by omega, h0.2⟩, ⟨?_, hB.keep T (by simp), ?_, hsg.keep T (by simp), hsh.keep T (by simp), fun p hp => ⟨(hP.by_ p hp).keep T (by simp), fun k hk => ?_⟩⟩⟩
  · rw [hq]; exact Runs.new t (Fg.start_inv (Fg.start_nodup ok b))
  · rw [hq, lvals_eq fun m hm => Fg.cnt_start ok b hm]; exact hD.keep T (by simp)
  · have h1 := hP.loq p hp k hk
    have h2 := (hP.by_ p hp).lt k hk
    rw [hg, hh] at h1
    simp at h1
    exact ⟨h2, by omega, by omega, by omega⟩
end Go.Proofs.Ytkjlbginggppaaa


/- Four messages' parts, fed in whatever order: the law's walk (FgL.whole_any). -/
namespace Go.Proofs.Ytkjlbginggppaaa
open Go.RowKit
set_option linter.unusedVariables false
set_option linter.unusedSimpArgs false
/-- what is told of a message's parts -/
theorem who_cases (q s x : Nat → Nat) (m : Nat) : (Fg.splitE (Fg.wb s x m) ≠ 0 ∧ Fg.wok s x m = false) ∨ (Fg.splitE (Fg.wb s x m) = 0 ∧ Fg.wok s x m = true ∧ (Fg.splitL (Fg.wid q m) (Fg.wb s x m)).length = Fg.many (Fg.wb s x m) ∧ ∀ i, i < Fg.many (Fg.wb s x m) → (Fg.splitL (Fg.wid q m) (Fg.wb s x m))[i]? = some (Fg.bytes (Fg.pt (Fg.wid q) (Fg.wb s x) (m, i)))) := by
  rcases Nat.eq_zero_or_pos (Fg.wb s x m).length with h0 | h0
  · exact .inl ⟨by rw [Fg.splitE_no h0]; decide, decide_eq_false (by omega)⟩
  · by_cases h1 : 4000 < (Fg.wb s x m).length
    · exact .inl ⟨by rw [Fg.splitE_long h1]; decide, decide_eq_false (by omega)⟩
    · have h2 : 1 ≤ (Fg.wb s x m).length ∧ (Fg.wb s x m).length ≤ 4000 := ⟨h0, by omega⟩
      refine .inr ⟨Fg.splitE_ok h2, decide_eq_true h2, ?_, ?_⟩
      · rw [Fg.splitL_ok h2, Fg.parts_len]
      · intro i hi
        rw [Fg.splitL_ok h2]
        exact Fg.parts_at hi
theorem pv_one {q : (Nat × Nat) × Value} (h : q.2.oneCell' = true) : ∀ a ∈ [q], ∀ u ∈ pvEnc a, u.oneCell' = true := by
  intro a ha u hu
  rw [List.mem_singleton.1 ha] at hu
  simp [pvEnc] at hu
  subst hu
  exact h
theorem pm_one {q : (Nat × Nat) × Value} : ∀ a ∈ [q], ∀ u ∈ pmEnc a, u.oneCell' = true := by
  intro a ha u hu
  simp [pmEnc] at hu
  subst hu
  rfl
theorem pv_len {l : List ((Nat × Nat) × Value)} : ∀ a ∈ l, (pvEnc a).length = 1 := fun _ _ => rfl
theorem pm_len {l : List ((Nat × Nat) × Value)} : ∀ a ∈ l, (pmEnc a).length = 1 := fun _ _ => rfl
theorem amod_in {a : Int} {n : Nat} (ha : 0 ≤ a) (hn : 1 ≤ n) : ∃ k : Nat, a.tmod (n : Int) = (k : Int) ∧ k < n := by
  have h1 : a.tmod (n : Int) = a % (n : Int) := Int.tmod_eq_emod_of_nonneg ha
  have h2 := Int.emod_nonneg a (show (n : Int) ≠ 0 by omega)
  have h3 := Int.emod_lt_of_pos a (show (0 : Int) < (n : Int) by omega)
  exact ⟨(a.tmod (n : Int)).toNat, by rw [h1]; omega, by rw [h1]; omega⟩
namespace FgL
set_option maxRecDepth 20000 in
set_option maxHeartbeats 16000000 in
theorem whole_any (q s x : Nat → Nat) (hq : ∀ m, m < 4 → q m < 65536) (hs : ∀ m, m < 4 → s m < 65536) (hx : ∀ m, m < 4 → x m < 256) (oa : Option Addr) (n cap : Nat) (w : World) (hn : n ≤ maxLen) (hc : n ≤ cap) (hI : Ints .u16 oa n w) :
    Calls Try.prog 5 #[.agg #[.int .u16 (q 0 : Int), .int .u16 (s 0 : Int), .int .u8 (x 0 : Int), .int .u16 (q 1 : Int), .int .u16 (s 1 : Int), .int .u8 (x 1 : Int), .int .u16 (q 2 : Int), .int .u16 (s 2 : Int), .int .u8 (x 2 : Int), .int .u16 (q 3 : Int), .int .u16 (s 3 : Int), .int .u8 (x 3 : Int)], .slice oa n cap] w fun e w' => e = .returned (.bool true) ∧ Turned [] w w' := by
  unfold maxLen at hn
  go_enter Try.func5, Try.ntmps5
  go_wp2_with fail
  obtain ⟨W0, hW0⟩ : ∃ W, W = w.alloc (.cells #[.int .u16 (q 0 : Int), .int .u16 (s 0 : Int), .int .u8 (x 0 : Int), .int .u16 (q 1 : Int), .int .u16 (s 1 : Int), .int .u8 (x 1 : Int), .int .u16 (q 2 : Int), .int .u16 (s 2 : Int), .int .u8 (x 2 : Int), .int .u16 (q 3 : Int), .int .u16 (s 3 : Int), .int .u8 (x 3 : Int)] 52) := ⟨_, rfl⟩
  obtain ⟨B, hB⟩ : ∃ B, B = w.heap.size := ⟨_, rfl⟩
  rw [← hW0, ← hB]
  have TW : Turned [] w W0 := by rw [hW0]; exact (Turned.refl [] w).alloc _
  have hS : Struct B (mvals (Fg.idAt q 0) s x) W0 := by rw [hW0, hB, mvals_eq (f' := q) (fun m _ => by simp [Fg.idAt])]; exact Struct.new w (mvals q s x) _
  have HBw : Hid (w.heap.size ≤ B) := by show w.heap.size ≤ B; omega
  clear hW0 hB
  have HT0 : Turned [] W0 W0 := Turned.refl _ _
  by_cases h100 : 100 < (n : Int)
  · clear hS
    go_wp2_with (go_at_call 9; (with_reducible refine (FgL.awake_any _).mono ?_); rintro e u0 ⟨rfl, HT1⟩; have HT0 := HT0.trans HT1 (by simp))
    go_ret
    exact ⟨rfl, TW.trans HT0 (by simp)⟩
  · go_wp2_with (go_at_call 9; (with_reducible refine (FgL.awake_any _).mono ?_); rintro e u0 ⟨rfl, HT1⟩; have HT0 := HT0.trans HT1 (by simp); clear HT1)
    obtain ⟨W1, hW1⟩ : ∃ W, W = u0.alloc (.cells #[.int .i64 0, .int .i64 0, .int .i64 0, .int .i64 0] 55) := ⟨_, rfl⟩
    obtain ⟨D, hD⟩ : ∃ D, D = u0.heap.size := ⟨_, rfl⟩
    rw [← hW1, ← hD]
    have hT1 : Turned [] u0 W1 := by rw [hW1]; exact (Turned.refl [] u0).alloc _
    have hL : Struct D (lvals (Fg.leftAt (Fg.wok s x) (Fg.wb s x) 0)) W1 := by rw [hW1, hD, lvals_eq (f' := fun _ => 0) (fun m _ => by simp [Fg.leftAt])]; exact Struct.new u0 [.int .i64 0, .int .i64 0, .int .i64 0, .int .i64 0] _
    have hBD : B < D := by rw [hD]; exact Nat.lt_of_lt_of_le hS.1 HT0.size
    have hDW : D < W1.heap.size := hL.1
    have hS1 : Struct B (mvals (Fg.idAt q 0) s x) W1 := hS.keep (HT0.trans hT1 (by simp)) (by simp)
    have HTW : Hid (Turned [] w W1) := (TW.trans HT0 (by simp)).trans hT1 (by simp)
    have HBD : Hid (B < D ∧ D < W1.heap.size) := ⟨hBD, hDW⟩
    have HI : Hid (Ints .u16 oa n w) := hI
    have HQ : Hid (∀ m, m < 4 → q m < 65536) := hq
    have HSX : Hid (∀ m, m < 4 → s m < 65536 ∧ x m < 256) := fun m hm => ⟨hs m hm, hx m hm⟩
    clear hW1 hD hT1 hS TW HT0 hBD hDW hI hq hs hx
    go_loopw [5, 6, 8, 9, 10, 11] (fun v5 v6 i p e k wr => ∃ (m : Nat) (Q : List ((Nat × Nat) × Value)), m ≤ 4 ∧ i = .int .i64 (m : Int) ∧ Piled W1.heap.size (Fg.wid q) (Fg.wb s x) Q v5 v6 wr ∧ Q.map Prod.fst = Fg.upto (Fg.wok s x) (Fg.wb s x) m ∧ Struct B (mvals (Fg.idAt q m) s x) wr ∧ Struct D (lvals (Fg.leftAt (Fg.wok s x) (Fg.wb s x) m)) wr ∧ Turned [B, D] W1 wr) (fun _ _ i _ _ _ _ => 4 - (intOf i).toNat)
    case atStart => exact ⟨0, [], by omega, rfl, Piled.nil _ _ _ _, rfl, hS1, hL, Turned.refl _ _⟩
    case round =>
      obtain ⟨m, Q, hm, rfl, hP, hQm, hSB, hSD, hT2⟩ := hrel
      clear hS1 hL
      by_cases hlt : (m : Int) < 4
      · have hm4 : m < 4 := by omega
        have hqm : (q m : Int) < 65536 := by have := HQ.out m hm4; omega
        have cI := (hSB.2 (m * 3) _ (mvals_at hm4).1)
        rw [show Fg.idAt q m m = q m by simp [Fg.idAt]] at cI
        obtain ⟨cI1, cI2⟩ := cI
        have hBr : B < wr.heap.size := hSB.1
        go_wp2_with fail
        have eW : ((q m : Int) % 4096 * 4 + (m : Int)) = ((Fg.wid q m : Nat) : Int) := by unfold Fg.wid; omega
        rw [eW]
        have tI : Turned [B] wr (wr.setCell ⟨B, m * 3, none⟩ (.int .u16 ((Fg.wid q m : Nat) : Int))) := (Turned.refl [B] wr).setCell (p := ⟨B, m * 3, none⟩) (.inl (by simp)) _
        have sI : Struct B (mvals (Fg.idAt q (m + 1)) s x) (wr.setCell ⟨B, m * 3, none⟩ (.int .u16 ((Fg.wid q m : Nat) : Int))) := by
          have h := hSB.set (i := m * 3) (by show m * 3 < 12; omega) (.int .u16 ((Fg.wid q m : Nat) : Int))
          rw [mvals_set hm4, Fg.idAt_next] at h
          exact h
        obtain ⟨wI, hwI⟩ : ∃ W, W = wr.setCell ⟨B, m * 3, none⟩ (.int .u16 ((Fg.wid q m : Nat) : Int)) := ⟨_, rfl⟩
        rw [← hwI] at tI sI ⊢
        have HBD1 := HBD.out.1
        have HBD2 := HBD.out.2
        have HPI : Hid (Piled W1.heap.size (Fg.wid q) (Fg.wb s x) Q u5 u6 wI) := hP.keep tI (by simp; omega)
        have HSI : Hid (Struct B (mvals (Fg.idAt q (m + 1)) s x) wI) := sI
        have HDI : Hid (Struct D (lvals (Fg.leftAt (Fg.wok s x) (Fg.wb s x) m)) wI) := hSD.keep tI (by simp; omega)
        have HTI : Hid (Turned [B, D] W1 wI) := hT2.trans tI (by simp)
        have HQm : Hid (Q.map Prod.fst = Fg.upto (Fg.wok s x) (Fg.wb s x) m) := hQm
        have three : ∀ u, Turned [] wI u → u.cell? ⟨B, m * 3, none⟩ = some (.int .u16 ((Fg.wid q m : Nat) : Int)) ∧ u.cell? ⟨B, m * 3 + 1, none⟩ = some (.int .u16 (s m : Int)) ∧ u.cell? ⟨B, m * 3 + 2, none⟩ = some (.int .u8 (x m : Int)) := fun u hu => by
          have h := sI.keep hu (by simp)
          obtain ⟨h0, h1, h2⟩ := mvals_at (id := Fg.idAt q (m + 1)) (s := s) (x := x) hm4
          rw [show Fg.idAt q (m + 1) m = Fg.wid q m by simp [Fg.idAt]] at h0
          exact ⟨(h.2 _ _ h0).1, (h.2 _ _ h1).1, (h.2 _ _ h2).1⟩
        have hcase := who_cases q s x m
        have kB : ∀ u, Calls Try.prog 11 #[.agg #[.int .u16 ((Fg.wid q m : Nat) : Int), .int .u16 (s m : Int), .int .u8 (x m : Int)]] u fun e u' => ∃ v, e = .returned v ∧ BytesAt v (Fg.wb s x m) u' ∧ Turned [] u u' := fun u => bytes_w (Fg.wid q m) (s m) (x m) (HSX.out m hm4).1 (HSX.out m hm4).2 u
        have kS : ∀ u v, BytesAt v (Fg.wb s x m) u → Calls Try.prog 10 #[.int .u16 ((Fg.wid q m : Nat) : Int), v] u fun e u' => ∃ o c, e = .returned (.tuple #[.slice o (Fg.splitL (Fg.wid q m) (Fg.wb s x m)).length c, .int .i64 (Fg.splitE (Fg.wb s x m))]) ∧ LsB u.heap.size u'.heap.size (.slice o (Fg.splitL (Fg.wid q m) (Fg.wb s x m)).length c) (Fg.splitL (Fg.wid q m) (Fg.wb s x m)) u' ∧ Turned [] u u' := fun u v hv => split_new (Fg.wid q m) v (Fg.wb s x m) u (Fg.wid_lt q hm4) (Fg.msg_lt _ _) hv
        generalize Fg.splitE (Fg.wb s x m) = E at kS hcase
        generalize Fg.splitL (Fg.wid q m) (Fg.wb s x m) = X at kS hcase
        obtain ⟨N, hN⟩ : ∃ N, N = X.length := ⟨_, rfl⟩
        rw [← hN] at kS hcase
        have hmb : Fg.many (Fg.wb s x m) ≤ 14 := Fg.many_le s x m
        generalize Fg.wid q m = ID at three kB kS
        clear hwI eW hP hSB hSD hT2 hQm cI1 cI2 hBr tI sI hqm hN
        obtain ⟨c0, c1, c2⟩ := three _ (Turned.refl [] wI)
        go_region_with (first
          | (go_at_call 11; (with_reducible refine (kB _).mono ?_); rintro e u1 ⟨v1, rfl, HB1, HT1⟩; have HTa : Turned [] wI u1 := (by first | exact (Turned.refl [] wI).trans HT1 (by simp) | exact (Turned.refl [] wI).drew.trans HT1 (by simp)); obtain ⟨d0, d1, d2⟩ := three _ HTa)
          | (go_at_call 10; (with_reducible refine (kS _ _ HB1).mono ?_); rintro e u2 ⟨o2, c2', rfl, HL1, HT2⟩; have HTb : Turned [] wI u2 := HTa.trans HT2 (by simp); have HTs := HT2.size; have HTz := HTa.size; clear HT1 HT2 HB1 d0 d1 d2))
        all_goals clear three kB kS c0 c1 c2
        all_goals
          rcases hcase with ⟨hE, hok⟩ | ⟨hE, hok, hNm, hX⟩
          · have HOK : Hid (Fg.wok s x m = false) := hok
            clear hok
            go_wp2_with fail
            go_roundw
            case rel => exact ⟨m + 1, Q, by omega, by go_num, HPI.out.keep HTb (by simp), by rw [Fg.upto_next, HOK.out, HQm.out]; simp, HSI.out.keep HTb (by simp), by rw [← Fg.leftAt_no _ HOK.out]; exact HDI.out.keep HTb (by simp), HTI.out.trans HTb (by simp)⟩
            case measure => simp [intOf]; omega
          · subst hE
            have HOK : Hid (Fg.wok s x m = true) := hok
            have HNm : Hid (N = Fg.many (Fg.wb s x m)) := hNm
            have HX : Hid (∀ i, i < N → X[i]? = some (Fg.bytes (Fg.pt (Fg.wid q) (Fg.wb s x) (m, i)))) := fun i hi => hX i (by rw [← hNm]; exact hi)
            have hN14 : (N : Int) ≤ 14 := by omega
            have hsD := HDI.out.keep HTb (by simp)
            obtain ⟨cD1, cD2⟩ := hsD.2 m _ (lvals_at hm4)
            have hDu : D < u2.heap.size := hsD.1
            have HSD : Hid (Struct D (lvals (Fg.leftAt (Fg.wok s x) (Fg.wb s x) m)) u2) := hsD
            clear hok hNm hX hsD hmb
            go_wp2_with fail
            obtain ⟨u3, hu3⟩ : ∃ W, W = u2.setCell ⟨D, m, none⟩ (.int .i64 (N : Int)) := ⟨_, rfl⟩
            rw [← hu3]
            have t3 : Turned [D] u2 u3 := by rw [hu3]; exact (Turned.refl [D] u2).setCell (p := ⟨D, m, none⟩) (.inl (by simp)) _
            have HS3 : Hid (Struct D (lvals (Fg.leftAt (Fg.wok s x) (Fg.wb s x) (m + 1))) u3) := by
              have h := HSD.out.set (i := m) (by show m < 4; exact hm4) (.int .i64 (N : Int))
              rw [lvals_set hm4, HNm.out, Fg.leftAt_yes _ HOK.out, ← HNm.out, ← hu3] at h
              exact h
            have z3 : u3.heap.size = u2.heap.size := by rw [hu3]; simp
            have hP3 : Piled W1.heap.size (Fg.wid q) (Fg.wb s x) Q u5 u6 u3 := (HPI.out.keep HTb (by simp)).keep t3 (by simp; omega)
            have hTW := HTI.out.size
            have HL3 : Hid (LsB u1.heap.size u2.heap.size (.slice o2 N c2') X u3) := HL1.on t3 (by simp; omega)
            have HB3 : Hid (Struct B (mvals (Fg.idAt q (m + 1)) s x) u3) := (HSI.out.keep HTb (by simp)).keep t3 (by simp; omega)
            have HT3 : Hid (Turned [B, D] W1 u3) := (HTI.out.trans HTb (by simp)).trans t3 (by simp)
            obtain ⟨S5, hS5⟩ : ∃ S, S = blk u5 ++ blk u6 := ⟨_, rfl⟩
            have HS5 : Hid (∀ b ∈ S5, W1.heap.size ≤ b ∧ b < wI.heap.size) := fun b hb => by
              rw [hS5] at hb
              rcases List.mem_append.1 hb with e | e
              · exact ⟨HPI.out.lo5 b e, HPI.out.o5.lt b e⟩
              · exact ⟨(HPI.out.lo6 b e).1, HPI.out.o6.lt b e⟩
            have h0 : ∀ b ∈ blk u5 ++ blk u6, b ∈ S5 ∨ u3.heap.size ≤ b := fun b hb => .inl (by rw [hS5]; exact hb)
            clear hu3 hS5 HPI HSI HDI HTI HSD HL1 HTb t3 cD1 cD2 hDu
            go_loopw [5, 6, 11] (fun v5 v6 i wx => ∃ (k : Nat) (Q' : List ((Nat × Nat) × Value)), k ≤ N ∧ i = .int .i64 (k : Int) ∧ Piled W1.heap.size (Fg.wid q) (Fg.wb s x) Q' v5 v6 wx ∧ Q'.map Prod.fst = Fg.upto (Fg.wok s x) (Fg.wb s x) m ++ (List.range k).map (fun j => (m, j)) ∧ (∀ b ∈ blk v5 ++ blk v6, b ∈ S5 ∨ u3.heap.size ≤ b) ∧ Turned S5 u3 wx) (fun _ _ i _ => N - (intOf i).toNat)
            case atStart => exact ⟨0, Q, by omega, rfl, hP3, by rw [HQm.out]; simp, h0, Turned.refl _ _⟩
            case round =>
              obtain ⟨k, Q', hk, rfl, hP4, hQ4, hb4, ht4⟩ := hrel
              clear hP3 h0
              have HQ4 : Hid (Q'.map Prod.fst = Fg.upto (Fg.wok s x) (Fg.wb s x) m ++ (List.range k).map (fun j => (m, j))) := hQ4
              by_cases hlt2 : (k : Int) < (N : Int)
              · have hlen : Q'.length ≤ 70 := by
                  have h1 := congrArg List.length hQ4
                  have h2 := Fg.upto_len (Fg.wok s x) s x m
                  simp at h1
                  omega
                obtain ⟨g, o, v, rfl, hg, hcell, hby, hbl⟩ := (HL3.out.on ht4 (fun b hb => by have := HS5.out b hb; omega)).elem (HX.out k (by omega))
                obtain ⟨ov, mv, cv, rfl⟩ : ∃ (a : Option Addr) (m1 m2 : Nat), v = .slice a m1 m2 := by obtain ⟨a, c, e, _⟩ := hby; exact ⟨a, _, c, e⟩
                have b1 : Q'.length + 1 ≤ maxLen := by unfold maxLen; omega
                have b2 : (Q'.length + 1) * 24 ≤ 140737488355328 := by omega
                have b3 : (Q'.length + 1) * 8 ≤ 140737488355328 := by omega
                have hzz : W1.heap.size ≤ wr.heap.size := by have := ht4.size; omega
                have HQB : Hid (∀ b ∈ rblk (.slice ov mv cv), W1.heap.size ≤ b ∧ b ∉ blk u5 ∧ b ∉ blk u6) := fun b hb => by
                  have h1 := hbl b hb
                  refine ⟨by omega, fun hm => ?_, fun hm => ?_⟩
                  · rcases hb4 b (List.mem_append_left _ hm) with e | e
                    · have := HS5.out b e; omega
                    · omega
                  · rcases hb4 b (List.mem_append_right _ hm) with e | e
                    · have := HS5.out b e; omega
                    · omega
                have HBY : Hid (BytesAt (.slice ov mv cv) (Fg.bytes (Fg.pt (Fg.wid q) (Fg.wb s x) (m, k))) wr) := hby
                have HB4 : Hid (∀ b ∈ blk u5 ++ blk u6, b ∈ S5 ∨ u3.heap.size ≤ b) := hb4
                clear hby hbl hlen hQ4 hb4
                go_wp2_with (first
                  | (at_builtin; refine wp_push (v := u5) elem_sl rfl _ _ rfl rfl (hP4.o5.keep ((Turned.refl [] wr).alloc _) (by simp)) wr.heap.size 0 1 1 [((m, k), .slice ov mv cv)] rfl rfl pv_len (pv_one rfl) (one_cell rfl wr _) b1 b2 ?_; intro v5 w1 ho1 ht1 hb1; have ho6 := hP4.o6.keep (((Turned.refl (blk u5) wr).alloc _).trans ht1 fun k hk _ => hk) (fun k hk hm => (hP4.lo6 k hk).2 hm))
                  | (at_builtin; refine wp_push (v := u6) elem_int rfl _ _ rfl rfl (ho6.keep ((Turned.refl [] w1).alloc _) (by simp)) w1.heap.size 0 1 1 [((m, k), .slice ov mv cv)] rfl rfl pm_len pm_one (one_cell rfl w1 _) b1 b3 ?_; intro v6 w2 ho2 ht2 hb2))
                have hpush := hP4.push hzz HBY.out HQB.out ho1 ht1 hb1 ho2 ht2 hb2
                go_roundw
                case rel => exact ⟨k + 1, _, by omega, by go_num, hpush.1, by rw [List.map_append, HQ4.out, List.append_assoc, range_next]; rfl, fun b hb => by
                    rcases List.mem_append.1 hb with e | e
                    · rcases hpush.2.2.1 b e with e2 | e2
                      · exact HB4.out b (List.mem_append_left _ e2)
                      · have := ht4.size; exact .inr (by omega)
                    · rcases hpush.2.2.2 b e with e2 | e2
                      · exact HB4.out b (List.mem_append_right _ e2)
                      · have := ht4.size; exact .inr (by omega), ht4.trans hpush.2.1 (fun b hb hl => by
                    rcases HB4.out b hb with e | e
                    · exact e
                    · omega)⟩
                case measure => simp [intOf]; omega
              · have hkN : k = N := by omega
                clear hb4
                go_wp2_with fail
                go_roundw
                case rel => exact ⟨m + 1, Q', by omega, by go_num, hP4, by rw [Fg.upto_next, HOK.out, if_pos rfl, HQ4.out, hkN, HNm.out], HB3.out.keep ht4 (fun hm => by have := HS5.out _ hm; omega), HS3.out.keep ht4 (fun hm => by have := HS5.out _ hm; omega), HT3.out.trans ht4 (fun b hb hl => by have := HS5.out b hb; omega)⟩
                case measure => simp [intOf]; omega
      · have hm4 : m = 4 := by omega
        subst hm4
        simp only [Int.cast_ofNat_Int]
        have hq4 : Q.map Prod.fst = Fg.start (Fg.wok s x) (Fg.wb s x) := hQm
        have hSB4 : Struct B (mvals (Fg.wid q) s x) wr := by
          rw [mvals_eq (f' := Fg.wid q) (fun m hm => by simp [Fg.idAt, hm])] at hSB
          exact hSB
        have hQl : Q.length ≤ 56 := by
          have h1 := congrArg List.length hQm
          have h2 := Fg.upto_len (Fg.wok s x) s x 4
          simp at h1
          omega
        have hBD1 := HBD.out.1
        have hBD2 := HBD.out.2
        have HTR : Hid (Turned [] w wr) := HTW.out.trans hT2 (by simp; have := HBw.out; omega)
        by_cases h0 : Q.length = 0
        · have hQ0 : Q = [] := List.length_eq_zero_iff.1 h0
          subst hQ0
          obtain ⟨o5, c5, hv5, _⟩ := hP.o5.form
          obtain ⟨o6, c6, hv6, _⟩ := hP.o6.form
          simp only [List.length_nil] at hv5 hv6
          subst hv5 hv6
          have hinv : Fg.Inv (Fg.wb s x) [] [] := by
            have h := Fg.start_inv (Fg.start_nodup (Fg.wok s x) (Fg.wb s x))
            rw [← hq4] at h
            exact h
          have HRu := Runs.new (w := wr) (id := Fg.wid q) 40 hinv
          clear hinv hq4 hSB4 hQl hP hQm hSB hSD hT2 h0 hm hlt
          go_wp2_with fail
          obtain ⟨W2, hW2⟩ : ∃ W, W = wr.alloc (.cells #[.slice none 0 0] 40) := ⟨_, rfl⟩
          obtain ⟨A, hA⟩ : ∃ A, A = wr.heap.size := ⟨_, rfl⟩
          rw [← hW2, ← hA] at HRu ⊢
          have HT9 : Hid (Turned [] w W2) := by rw [hW2]; exact HTR.out.alloc _
          clear hW2 hA
          go_loopw [5, 6, 13, 14, 15, 16, 17, 18] (fun v5 v6 t k m x ok e wx => v5 = .slice o5 0 c5 ∧ wx = W2) (fun _ _ _ _ _ _ _ _ _ => 0)
          case atStart => exact ⟨rfl, rfl⟩
          case round =>
            obtain ⟨rfl, hw⟩ := hrel
            rw [hw]
            go_wp2_with (go_at_call 17; (with_reducible refine (FgL.waits_done HRu).mono ?_); rintro e u9 ⟨rfl, HT9'⟩)
            go_ret
            exact ⟨rfl, HT9.out.trans HT9' (by simp)⟩
        · obtain ⟨g, c5, rfl, hg5, hc5, hsg⟩ := own_struct (f := Prod.snd) hP.o5 (by omega)
          obtain ⟨h, c6, rfl, hh6, hc6, hsh⟩ := own_struct (f := mOf) hP.o6 (by omega)
          obtain ⟨hAp, hTa⟩ := tail_start hP hq4 hSB4 hSD (by omega) (by omega) (by omega) hg5 hh6 hsg hsh 40
          have hgw : Hid (w.heap.size ≤ g ∧ w.heap.size ≤ h) := by
            have h1 := hP.lo5 g (by rw [hg5]; simp)
            have h2 := (hP.lo6 h (by rw [hh6]; simp)).1
            have h3 := HTW.out.size
            exact ⟨by omega, by omega⟩
          obtain ⟨T, hT⟩ : ∃ T, T = Q.length := ⟨_, rfl⟩
          rw [← hT] at hc5 hc6 hQl h0 ⊢
          clear hq4 hSB4 hP hQm hSB hSD hT2 hm hlt hg5 hh6 hsg hsh
          have HLT : Hid (Q.length = T) := hT.symm
          clear hT
          go_wp2_with fail
          obtain ⟨W2, hW2⟩ : ∃ W, W = wr.alloc (.cells #[.slice none 0 0] 40) := ⟨_, rfl⟩
          obtain ⟨A, hA⟩ : ∃ A, A = wr.heap.size := ⟨_, rfl⟩
          rw [← hW2, ← hA] at hTa ⊢
          rw [← hA] at hAp
          have HTF : Hid (∀ u, Turned [A, D, g, h] W2 u → Turned [] w u) := fun u hu => by
            have h1 : Turned [] w W2 := by rw [hW2]; exact HTR.out.alloc _
            have h2 := HTR.out.size
            have h3 := HBw.out
            have h4 := hgw.out
            exact h1.trans hu (by intro b hb hl; simp at hb; omega)
          have HAP : Hid (Apart A B D g h) := hAp
          clear hW2 hA hAp hgw
          go_loopw [5, 6, 13, 14, 15, 16, 17, 18] (fun v5 v6 n k m y ok e wx => ∃ (t r : Nat) (K : List (Nat × Nat)) (Q' : List ((Nat × Nat) × Value)), t + r = T ∧ Q'.length = r ∧ v5 = .slice (some ⟨g, 0, none⟩) r c5 ∧ v6 = .slice (some ⟨h, 0, none⟩) r c6 ∧ n = .int .i64 (t : Int) ∧ Tail A B D g h (Fg.wid q) s x (Fg.wb s x) K Q' wx ∧ Turned [A, D, g, h] W2 wx) (fun _ _ n _ _ _ _ _ _ => T - (intOf n).toNat)
          case atStart => exact ⟨0, T, [], Q, by omega, HLT.out, rfl, rfl, rfl, hTa, Turned.refl _ _⟩
          case round =>
            obtain ⟨t, r, K, Q', htr, hr, rfl, rfl, rfl, hTl, hT2⟩ := hrel
            clear hTa
            have HR : Hid (Q'.length = r) := hr
            by_cases hr0 : 0 < (r : Int)
            · by_cases hto : (t : Int) < (n : Int)
              · obtain ⟨ob, off, zo, hoa, hob, hoc, hwf⟩ := HI.out t (by omega)
                obtain ⟨o, rfl, ho⟩ := u16_nat hwf
                obtain ⟨k, hk, hkr⟩ := amod_in (a := (o : Int)) (n := r) (by omega) (by omega)
                have hoc : wr.cell? ⟨ob, off + t, none⟩ = some (.int .u16 (o : Int)) := ((HTF.out wr hT2).cell (p := ⟨ob, off + t, none⟩) hob (by simp)).trans hoc
                have hob : ob < wr.heap.size := Nat.lt_of_lt_of_le hob (HTF.out wr hT2).size
                have hkr' : (k : Int) < (r : Int) := by omega
                subst hoa
                obtain ⟨⟨⟨mm, ii⟩, vq⟩, hq⟩ : ∃ q, Q'[k]? = some q := ⟨_, List.getElem?_eq_getElem (by omega)⟩
                obtain ⟨⟨⟨mz, iz⟩, vz⟩, hz⟩ : ∃ z, Q'[Q'.length - 1]? = some z := ⟨_, List.getElem?_eq_getElem (by omega)⟩
                have hR : (Q'.map Prod.fst)[k]? = some (mm, ii) := by rw [List.getElem?_map, hq]; rfl
                have hp := Fg.out_perm hR
                obtain ⟨hm4, hi4⟩ := hTl.run.inv.rgR (mm, ii) (List.mem_of_getElem? hR)
                have hm4 : mm < 4 := hm4
                have hcs := Fg.cnt_same hp
                simp only at hcs
                obtain ⟨hbq, _⟩ := hTl.by_ _ (List.mem_of_getElem? hq)
                obtain ⟨hbz, _⟩ := hTl.by_ _ (List.mem_of_getElem? hz)
                simp only at hbq hbz
                obtain ⟨oz, nz, cz, rfl⟩ : ∃ (a : Option Addr) (m1 m2 : Nat), vz = .slice a m1 m2 := by obtain ⟨a, c, e, _⟩ := hbz; exact ⟨a, _, c, e⟩
                have cg := (hTl.sg.2 k vq (by rw [List.getElem?_map, hq]; rfl)).1
                have ch := (hTl.sh.2 k (.int .i64 (mm : Int)) (by rw [List.getElem?_map, hq]; rfl)).1
                have hgs := hTl.sg.1
                have hDwr := hTl.sD.1
                have hhs := hTl.sh.1
                obtain ⟨l, hl⟩ : ∃ l, l = r - 1 := ⟨_, rfl⟩
                have hl1 : (r : Int) - 1 = (l : Int) := by omega
                have hlr : (l : Int) < (r : Int) := by omega
                have hl5 : (l : Int) ≤ (c5 : Int) := by omega
                have hl6 : (l : Int) ≤ (c6 : Int) := by omega
                have ht56 : (t : Int) ≤ 56 := by omega
                have HLR : Hid (l = r - 1) := hl
                have hzl : Q'[l]? = some ((mz, iz), .slice oz nz cz) := by rw [hl, ← hr]; exact hz
                obtain ⟨c, hc⟩ : ∃ c, c = Fg.cnt mm (Fg.out k (Q'.map Prod.fst)) := ⟨_, rfl⟩
                obtain ⟨c1, hc1⟩ : ∃ c1, c1 = Fg.cnt mm (Q'.map Prod.fst) := ⟨_, rfl⟩
                have hLD : (lvals fun m => Fg.cnt m (Q'.map Prod.fst))[mm]? = some (.int .i64 (c1 : Int)) := by rw [hc1]; exact lvals_at hm4
                have hcc : (c1 : Int) - 1 = (c : Int) := by omega
                have hc58 : (c1 : Int) ≤ 56 := by
                  have h1 : c1 ≤ (Q'.map Prod.fst).length := by rw [hc1]; exact List.length_filter_le _ _
                  rw [List.length_map] at h1
                  omega
                have HC : Hid (c = Fg.cnt mm (Fg.out k (Q'.map Prod.fst))) := hc
                have HZ : Hid (Q'[Q'.length - 1]? = some ((mz, iz), .slice oz nz cz)) := hz
                have HZL : Hid (Q'[l]? = some ((mz, iz), .slice oz nz cz)) := hzl
                have HQ : Hid (Q'[k]? = some ((mm, ii), vq)) := hq
                have HTL : Hid (Tail A B D g h (Fg.wid q) s x (Fg.wb s x) K Q' wr) := hTl
                have HLD : Hid ((lvals fun m => Fg.cnt m (Q'.map Prod.fst))[mm]? = some (.int .i64 (c1 : Int))) := hLD
                have HM4 : Hid (mm < 4) := hm4
                have hm4' : (mm : Int) < 4 := by omega
                -- what lies in the world behind Feed, and behind the store of what is left
                have AFT : Hid (∀ z : Int, z = (c : Int) → ∀ u, Turned [A] wr u → u.cell? ⟨D, mm, none⟩ = some (.int .i64 (c1 : Int)) ∧ u.frozen? ⟨D, mm, none⟩ = false ∧ D < u.heap.size ∧ (u.setCell ⟨D, mm, none⟩ (.int .i64 z)).cell? ⟨D, mm, none⟩ = some (.int .i64 z) ∧ Struct B (mvals (Fg.wid q) s x) (u.setCell ⟨D, mm, none⟩ (.int .i64 z)) ∧ Struct g (Q'.map Prod.snd) (u.setCell ⟨D, mm, none⟩ (.int .i64 z)) ∧ Struct h (Q'.map mOf) (u.setCell ⟨D, mm, none⟩ (.int .i64 z))) := fun z hz u hu => by
                  subst hz
                  obtain ⟨f1, f2, f3, f4⟩ := HTL.out.fed HAP.out hu
                  obtain ⟨g1, g2, g3⟩ := HTL.out.left HAP.out hu (.int .i64 (c : Int)) mm
                  refine ⟨(f2.2 mm _ HLD.out).1, (f2.2 mm _ HLD.out).2, f2.1, ?_, g1, g2, g3⟩
                  exact ((f2.set (i := mm) (by show mm < 4; exact HM4.out) (.int .i64 (c : Int))).2 mm _ (List.getElem?_set_self (by show mm < 4; exact HM4.out))).1
                -- the last one takes the place
                have LST : Hid (∀ u, Struct g (Q'.map Prod.snd) u → Struct h (Q'.map mOf) u → g < u.heap.size ∧ h < u.heap.size ∧ u.cell? ⟨g, l, none⟩ = some (.slice oz nz cz) ∧ u.cell? ⟨g, k, none⟩ = some vq ∧ u.frozen? ⟨g, k, none⟩ = false ∧ (u.setCell ⟨g, k, none⟩ (.slice oz nz cz)).cell? ⟨h, l, none⟩ = some (.int .i64 (mz : Int)) ∧ (u.setCell ⟨g, k, none⟩ (.slice oz nz cz)).cell? ⟨h, k, none⟩ = some (.int .i64 (mm : Int)) ∧ (u.setCell ⟨g, k, none⟩ (.slice oz nz cz)).frozen? ⟨h, k, none⟩ = false) := fun u h1 h2 => by
                  have T4 : Turned [g] u (u.setCell ⟨g, k, none⟩ (.slice oz nz cz)) := (Turned.refl [g] u).setCell (p := ⟨g, k, none⟩) (.inl (by simp)) _
                  have h3 := h2.keep T4 (by have := HAP.out.gh; simp; omega)
                  have q1 : (Q'.map Prod.snd)[k]? = some vq := by rw [List.getElem?_map, HQ.out]; rfl
                  have q2 : (Q'.map mOf)[k]? = some (.int .i64 (mm : Int)) := by rw [List.getElem?_map, HQ.out]; rfl
                  have z1 : (Q'.map Prod.snd)[l]? = some (.slice oz nz cz) := by rw [List.getElem?_map, HZL.out]; rfl
                  have z2 : (Q'.map mOf)[l]? = some (.int .i64 (mz : Int)) := by rw [List.getElem?_map, HZL.out]; rfl
                  exact ⟨h1.1, h2.1, (h1.2 _ _ z1).1, (h1.2 _ _ q1).1, (h1.2 _ _ q1).2, (h3.2 _ _ z2).1, (h3.2 _ _ q2).1, (h3.2 _ _ q2).2⟩
                have hcase : c = 0 ∨ 0 < c := by omega
                clear hz hzl hq hLD hl hi4 hbz hcs
                rcases hcase with hc0 | hc0
                · subst hc0
                  have kF := feed_last (Fg.wid_inj q) hTl.run (who_ok q s x (y := (mm, ii)) hm4) hbq hp hc.symm
                  simp only at kF
                  have kB : ∀ u, Calls Try.prog 11 #[.agg #[.int .u16 (Fg.wid q mm : Int), .int .u16 (s mm : Int), .int .u8 (x mm : Int)]] u fun e u' => ∃ v, e = .returned v ∧ BytesAt v (Fg.wb s x mm) u' ∧ Turned [] u u' := fun u => bytes_w (Fg.wid q mm) (s mm) (x mm) (HSX.out mm hm4).1 (HSX.out mm hm4).2 u
                  have kM : ∀ u va vb, BytesAt va (Fg.wb s x mm) u → BytesAt vb (Fg.wb s x mm) u → Calls Try.prog 16 #[va, vb] u fun e u' => e = .returned (.bool true) ∧ Turned [] u u' := fun u va vb ha hb => by
                    obtain ⟨p1, e1, rfl, _, r1, _⟩ := ha
                    obtain ⟨p2, e2, rfl, _, r2, _⟩ := hb
                    have hle := Fg.wb_len s x mm
                    refine (BtL.same_any p1 p2 e1 e2 _ _ u r1 r2 (by omega) (by omega)).mono ?_
                    rintro e u' ⟨rfl, ht⟩
                    exact ⟨by rw [decide_eq_true rfl], ht⟩
                  have hcc0 : (c1 : Int) - 1 = 0 := by omega
                  have HADN : Hid (Apart A B D g h) := HAP.out
                  clear hp hR hTl hbq hc hc1 hcc
                  go_wp2_with (first
                    | (go_at_call 14; (with_reducible refine kF.mono ?_); rintro e u9 ⟨va, rfl, hva, HR9, HT9, hvf⟩; obtain ⟨cD1, cD2, hD9, cD3, sB9, sg9, sh9⟩ := AFT.out 0 (by simp) u9 HT9; have b0 := (sB9.2 _ _ (mvals_at HM4.out).1).1; have b1 := (sB9.2 _ _ (mvals_at HM4.out).2.1).1; have b2 := (sB9.2 _ _ (mvals_at HM4.out).2.2).1; have hB9 := sB9.1; have T9 : Turned [D] u9 (u9.setCell ⟨D, mm, none⟩ (.int .i64 0)) := (Turned.refl [D] u9).setCell (p := ⟨D, mm, none⟩) (.inl (by simp)) _; have hva9 := hva.keep T9 (fun k hk hm => by simp at hm; have := hvf k hk; omega))
                    | (go_at_call 11; (with_reducible refine (kB _).mono ?_); rintro e u10 ⟨vb, rfl, hvb, HT10⟩; have hva10 := hva9.keep HT10 (by simp))
                    | (go_at_call 16; (with_reducible refine (kM _ _ _ hva10 hvb).mono ?_); rintro e u11 ⟨rfl, HT11⟩; have h3 := HT10.trans HT11 (by simp); obtain ⟨hg9, hh9, z1, q1, q2, z2, q3, q4⟩ := LST.out u11 (sg9.keep h3 (by simp)) (sh9.keep h3 (by simp))))
                  have hstep := HTL.out.step HAP.out HQ.out HZ.out HM4.out HR9 HT9 HC.out h3
                  go_roundw
                  case rel => exact ⟨t + 1, l, _, out1 k Q', by omega, by rw [out1_len, HR.out]; exact HLR.out.symm, rfl, rfl, by go_num, hstep.1, hT2.trans hstep.2 (fun _ h _ => h)⟩
                  case measure => simp [intOf]; omega
                · have kF := feed_more (Fg.wid_inj q) hTl.run (who_ok q s x (y := (mm, ii)) hm4) hbq hp (by rw [← hc]; exact hc0)
                  have hcne : ¬ (c : Int) = 0 := by omega
                  clear hp hR hTl hbq hc hc1 hc0
                  go_wp2_with (go_at_call 14; (with_reducible refine kF.mono ?_); rintro e u9 ⟨va, rfl, HR9, HT9⟩; obtain ⟨cD1, cD2, hD9, cD3, sB9, sg9, sh9⟩ := AFT.out (c : Int) rfl u9 HT9; obtain ⟨hg9, hh9, z1, q1, q2, z2, q3, q4⟩ := LST.out _ sg9 sh9)
                  have hstep := HTL.out.step HAP.out HQ.out HZ.out HM4.out HR9 HT9 HC.out (Turned.refl [] _)
                  go_roundw
                  case rel => exact ⟨t + 1, l, _, out1 k Q', by omega, by rw [out1_len, HR.out]; exact HLR.out.symm, rfl, rfl, by go_num, hstep.1, hT2.trans hstep.2 (fun _ h _ => h)⟩
                  case measure => simp [intOf]; omega
              · have hkr : 0 < r := by omega
                obtain ⟨⟨⟨mm, ii⟩, vq⟩, hq⟩ : ∃ q, Q'[0]? = some q := ⟨_, List.getElem?_eq_getElem (by omega)⟩
                obtain ⟨⟨⟨mz, iz⟩, vz⟩, hz⟩ : ∃ z, Q'[Q'.length - 1]? = some z := ⟨_, List.getElem?_eq_getElem (by omega)⟩
                have hR : (Q'.map Prod.fst)[0]? = some (mm, ii) := by rw [List.getElem?_map, hq]; rfl
                have hp := Fg.out_perm hR
                obtain ⟨hm4, hi4⟩ := hTl.run.inv.rgR (mm, ii) (List.mem_of_getElem? hR)
                have hm4 : mm < 4 := hm4
                have hcs := Fg.cnt_same hp
                simp only at hcs
                obtain ⟨hbq, _⟩ := hTl.by_ _ (List.mem_of_getElem? hq)
                obtain ⟨hbz, _⟩ := hTl.by_ _ (List.mem_of_getElem? hz)
                simp only at hbq hbz
                obtain ⟨oz, nz, cz, rfl⟩ : ∃ (a : Option Addr) (m1 m2 : Nat), vz = .slice a m1 m2 := by obtain ⟨a, c, e, _⟩ := hbz; exact ⟨a, _, c, e⟩
                have cg := (hTl.sg.2 0 vq (by rw [List.getElem?_map, hq]; rfl)).1
                have ch := (hTl.sh.2 0 (.int .i64 (mm : Int)) (by rw [List.getElem?_map, hq]; rfl)).1
                have hgs := hTl.sg.1
                have hDwr := hTl.sD.1
                have hhs := hTl.sh.1
                obtain ⟨l, hl⟩ : ∃ l, l = r - 1 := ⟨_, rfl⟩
                have hl1 : (r : Int) - 1 = (l : Int) := by omega
                have hlr : (l : Int) < (r : Int) := by omega
                have hl5 : (l : Int) ≤ (c5 : Int) := by omega
                have hl6 : (l : Int) ≤ (c6 : Int) := by omega
                have ht56 : (t : Int) ≤ 56 := by omega
                have HLR : Hid (l = r - 1) := hl
                have hzl : Q'[l]? = some ((mz, iz), .slice oz nz cz) := by rw [hl, ← hr]; exact hz
                obtain ⟨c, hc⟩ : ∃ c, c = Fg.cnt mm (Fg.out 0 (Q'.map Prod.fst)) := ⟨_, rfl⟩
                obtain ⟨c1, hc1⟩ : ∃ c1, c1 = Fg.cnt mm (Q'.map Prod.fst) := ⟨_, rfl⟩
                have hLD : (lvals fun m => Fg.cnt m (Q'.map Prod.fst))[mm]? = some (.int .i64 (c1 : Int)) := by rw [hc1]; exact lvals_at hm4
                have hcc : (c1 : Int) - 1 = (c : Int) := by omega
                have hc58 : (c1 : Int) ≤ 56 := by
                  have h1 : c1 ≤ (Q'.map Prod.fst).length := by rw [hc1]; exact List.length_filter_le _ _
                  rw [List.length_map] at h1
                  omega
                have HC : Hid (c = Fg.cnt mm (Fg.out 0 (Q'.map Prod.fst))) := hc
                have HZ : Hid (Q'[Q'.length - 1]? = some ((mz, iz), .slice oz nz cz)) := hz
                have HZL : Hid (Q'[l]? = some ((mz, iz), .slice oz nz cz)) := hzl
                have HQ : Hid (Q'[0]? = some ((mm, ii), vq)) := hq
                have HTL : Hid (Tail A B D g h (Fg.wid q) s x (Fg.wb s x) K Q' wr) := hTl
                have HLD : Hid ((lvals fun m => Fg.cnt m (Q'.map Prod.fst))[mm]? = some (.int .i64 (c1 : Int))) := hLD
                have HM4 : Hid (mm < 4) := hm4
                have hm4' : (mm : Int) < 4 := by omega
                -- what lies in the world behind Feed, and behind the store of what is left
                have AFT : Hid (∀ z : Int, z = (c : Int) → ∀ u, Turned [A] wr u → u.cell? ⟨D, mm, none⟩ = some (.int .i64 (c1 : Int)) ∧ u.frozen? ⟨D, mm, none⟩ = false ∧ D < u.heap.size ∧ (u.setCell ⟨D, mm, none⟩ (.int .i64 z)).cell? ⟨D, mm, none⟩ = some (.int .i64 z) ∧ Struct B (mvals (Fg.wid q) s x) (u.setCell ⟨D, mm, none⟩ (.int .i64 z)) ∧ Struct g (Q'.map Prod.snd) (u.setCell ⟨D, mm, none⟩ (.int .i64 z)) ∧ Struct h (Q'.map mOf) (u.setCell ⟨D, mm, none⟩ (.int .i64 z))) := fun z hz u hu => by
                  subst hz
                  obtain ⟨f1, f2, f3, f4⟩ := HTL.out.fed HAP.out hu
                  obtain ⟨g1, g2, g3⟩ := HTL.out.left HAP.out hu (.int .i64 (c : Int)) mm
                  refine ⟨(f2.2 mm _ HLD.out).1, (f2.2 mm _ HLD.out).2, f2.1, ?_, g1, g2, g3⟩
                  exact ((f2.set (i := mm) (by show mm < 4; exact HM4.out) (.int .i64 (c : Int))).2 mm _ (List.getElem?_set_self (by show mm < 4; exact HM4.out))).1
                -- the last one takes the place
                have LST : Hid (∀ u, Struct g (Q'.map Prod.snd) u → Struct h (Q'.map mOf) u → g < u.heap.size ∧ h < u.heap.size ∧ u.cell? ⟨g, l, none⟩ = some (.slice oz nz cz) ∧ u.cell? ⟨g, 0, none⟩ = some vq ∧ u.frozen? ⟨g, 0, none⟩ = false ∧ (u.setCell ⟨g, 0, none⟩ (.slice oz nz cz)).cell? ⟨h, l, none⟩ = some (.int .i64 (mz : Int)) ∧ (u.setCell ⟨g, 0, none⟩ (.slice oz nz cz)).cell? ⟨h, 0, none⟩ = some (.int .i64 (mm : Int)) ∧ (u.setCell ⟨g, 0, none⟩ (.slice oz nz cz)).frozen? ⟨h, 0, none⟩ = false) := fun u h1 h2 => by
                  have T4 : Turned [g] u (u.setCell ⟨g, 0, none⟩ (.slice oz nz cz)) := (Turned.refl [g] u).setCell (p := ⟨g, 0, none⟩) (.inl (by simp)) _
                  have h3 := h2.keep T4 (by have := HAP.out.gh; simp; omega)
                  have q1 : (Q'.map Prod.snd)[0]? = some vq := by rw [List.getElem?_map, HQ.out]; rfl
                  have q2 : (Q'.map mOf)[0]? = some (.int .i64 (mm : Int)) := by rw [List.getElem?_map, HQ.out]; rfl
                  have z1 : (Q'.map Prod.snd)[l]? = some (.slice oz nz cz) := by rw [List.getElem?_map, HZL.out]; rfl
                  have z2 : (Q'.map mOf)[l]? = some (.int .i64 (mz : Int)) := by rw [List.getElem?_map, HZL.out]; rfl
                  exact ⟨h1.1, h2.1, (h1.2 _ _ z1).1, (h1.2 _ _ q1).1, (h1.2 _ _ q1).2, (h3.2 _ _ z2).1, (h3.2 _ _ q2).1, (h3.2 _ _ q2).2⟩
                have hcase : c = 0 ∨ 0 < c := by omega
                clear hz hzl hq hLD hl hi4 hbz hcs
                rcases hcase with hc0 | hc0
                · subst hc0
                  have kF := feed_last (Fg.wid_inj q) hTl.run (who_ok q s x (y := (mm, ii)) hm4) hbq hp hc.symm
                  simp only at kF
                  have kB : ∀ u, Calls Try.prog 11 #[.agg #[.int .u16 (Fg.wid q mm : Int), .int .u16 (s mm : Int), .int .u8 (x mm : Int)]] u fun e u' => ∃ v, e = .returned v ∧ BytesAt v (Fg.wb s x mm) u' ∧ Turned [] u u' := fun u => bytes_w (Fg.wid q mm) (s mm) (x mm) (HSX.out mm hm4).1 (HSX.out mm hm4).2 u
                  have kM : ∀ u va vb, BytesAt va (Fg.wb s x mm) u → BytesAt vb (Fg.wb s x mm) u → Calls Try.prog 16 #[va, vb] u fun e u' => e = .returned (.bool true) ∧ Turned [] u u' := fun u va vb ha hb => by
                    obtain ⟨p1, e1, rfl, _, r1, _⟩ := ha
                    obtain ⟨p2, e2, rfl, _, r2, _⟩ := hb
                    have hle := Fg.wb_len s x mm
                    refine (BtL.same_any p1 p2 e1 e2 _ _ u r1 r2 (by omega) (by omega)).mono ?_
                    rintro e u' ⟨rfl, ht⟩
                    exact ⟨by rw [decide_eq_true rfl], ht⟩
                  have hcc0 : (c1 : Int) - 1 = 0 := by omega
                  have HADN : Hid (Apart A B D g h) := HAP.out
                  clear hp hR hTl hbq hc hc1 hcc
                  go_wp2_with (first
                    | (go_at_call 14; (with_reducible refine kF.mono ?_); rintro e u9 ⟨va, rfl, hva, HR9, HT9, hvf⟩; obtain ⟨cD1, cD2, hD9, cD3, sB9, sg9, sh9⟩ := AFT.out 0 (by simp) u9 HT9; have b0 := (sB9.2 _ _ (mvals_at HM4.out).1).1; have b1 := (sB9.2 _ _ (mvals_at HM4.out).2.1).1; have b2 := (sB9.2 _ _ (mvals_at HM4.out).2.2).1; have hB9 := sB9.1; have T9 : Turned [D] u9 (u9.setCell ⟨D, mm, none⟩ (.int .i64 0)) := (Turned.refl [D] u9).setCell (p := ⟨D, mm, none⟩) (.inl (by simp)) _; have hva9 := hva.keep T9 (fun k hk hm => by simp at hm; have := hvf k hk; omega))
                    | (go_at_call 11; (with_reducible refine (kB _).mono ?_); rintro e u10 ⟨vb, rfl, hvb, HT10⟩; have hva10 := hva9.keep HT10 (by simp))
                    | (go_at_call 16; (with_reducible refine (kM _ _ _ hva10 hvb).mono ?_); rintro e u11 ⟨rfl, HT11⟩; have h3 := HT10.trans HT11 (by simp); obtain ⟨hg9, hh9, z1, q1, q2, z2, q3, q4⟩ := LST.out u11 (sg9.keep h3 (by simp)) (sh9.keep h3 (by simp))))
                  have hstep := HTL.out.step HAP.out HQ.out HZ.out HM4.out HR9 HT9 HC.out h3
                  go_roundw
                  case rel => exact ⟨t + 1, l, _, out1 0 Q', by omega, by rw [out1_len, HR.out]; exact HLR.out.symm, rfl, rfl, by go_num, hstep.1, hT2.trans hstep.2 (fun _ h _ => h)⟩
                  case measure => simp [intOf]; omega
                · have kF := feed_more (Fg.wid_inj q) hTl.run (who_ok q s x (y := (mm, ii)) hm4) hbq hp (by rw [← hc]; exact hc0)
                  have hcne : ¬ (c : Int) = 0 := by omega
                  clear hp hR hTl hbq hc hc1 hc0
                  go_wp2_with (go_at_call 14; (with_reducible refine kF.mono ?_); rintro e u9 ⟨va, rfl, HR9, HT9⟩; obtain ⟨cD1, cD2, hD9, cD3, sB9, sg9, sh9⟩ := AFT.out (c : Int) rfl u9 HT9; obtain ⟨hg9, hh9, z1, q1, q2, z2, q3, q4⟩ := LST.out _ sg9 sh9)
                  have hstep := HTL.out.step HAP.out HQ.out HZ.out HM4.out HR9 HT9 HC.out (Turned.refl [] _)
                  go_roundw
                  case rel => exact ⟨t + 1, l, _, out1 0 Q', by omega, by rw [out1_len, HR.out]; exact HLR.out.symm, rfl, rfl, by go_num, hstep.1, hT2.trans hstep.2 (fun _ h _ => h)⟩
                  case measure => simp [intOf]; omega
            · have hr00 : r = 0 := by omega
              have hQ0 : Q' = [] := List.length_eq_zero_iff.1 (by rw [HR.out, hr00])
              have hRun := hTl.run
              rw [hQ0] at hRun
              simp only [List.map_nil] at hRun
              have HT9 := HTF.out wr hT2
              clear hTl hQ0 hr00
              go_wp2_with (go_at_call 17; (with_reducible refine (FgL.waits_done hRun).mono ?_); rintro e u9 ⟨rfl, HT10⟩)
              go_ret
              exact ⟨rfl, HT9.trans HT10 (by simp)⟩
end FgL
end Go.Proofs.Ytkjlbginggppaaa


/- The reference's Feed, plain: what its loops know on the way (Fg). -/
namespace Go.Proofs.Ytkjlbginggppaaa
open Go.RowKit
set_option linter.unusedVariables false
set_option linter.unusedSimpArgs false

namespace Fg
theorem got_next {M : List P} {k : Nat} {q p : P} (h : M[k]? = some q) : (got p (M.take (k + 1))).length = (got p (M.take k)).length + (if mine q p = true then 1 else 0) := by
  unfold got
  rw [List.take_add_one, h, List.filter_append, List.length_append]
  show _ + ([q].filter _).length = _
  rw [List.filter_cons]
  by_cases hm : mine q p = true
  · rw [if_pos hm, if_pos hm]; rfl
  · rw [if_neg hm, if_neg hm]; rfl
theorem old_next {M : List P} {k : Nat} {q p : P} (h : M[k]? = some q) : old p (M.take (k + 1)) = (old p (M.take k) || (mine q p && q.at_ == p.at_)) := by
  unfold old
  rw [List.take_add_one, h, List.any_append]
  show (_ || [q].any _) = _
  simp
theorem old_yes {M : List P} {k : Nat} {q p : P} (h : M[k]? = some q) (hm : mine q p = true) (ha : q.at_ = p.at_) : old p M = true := by
  unfold old
  rw [List.any_eq_true]
  exact ⟨q, List.mem_of_getElem? h, by rw [hm, ha]; simp⟩
theorem room_yes {M : List P} {q p : P} (h0 : got p M = []) (h4 : waits M = 4) (hq : M[0]? = some q) : room p M = drop q M := by
  cases M with
  | nil => simp at hq
  | cons a l =>
    have e : a = q := by simpa using hq
    subst e
    show (if _ then _ else _) = _
    rw [if_pos ⟨h0, h4⟩]
theorem room_no {M : List P} {p : P} (h : ¬ (got p M = [] ∧ waits M = 4)) : room p M = M := by
  cases M with
  | nil => rfl
  | cons a l =>
    show (if _ then _ else _) = _
    rw [if_neg h]
/-- what has been put together ahead of place i of the round at_ -/
def half (p : P) (M : List P) (a i : Nat) : List Nat := ((List.range a).flatMap fun j => (M.filter fun q => mine q p && q.at_ == j).flatMap P.b) ++ ((M.take i).filter fun q => mine q p && q.at_ == a).flatMap P.b
theorem half_zero (p : P) (M : List P) : half p M 0 0 = [] := rfl
theorem half_row (p : P) (M : List P) (a : Nat) : half p M a M.length = half p M (a + 1) 0 := by
  unfold half
  rw [List.range_succ, List.flatMap_append, List.flatMap_singleton, List.take_length]
  simp
theorem half_all (p : P) (M : List P) : half p M p.n 0 = whole p M := by
  unfold half whole
  simp
theorem half_yes {p q : P} {M : List P} {a i : Nat} (h : M[i]? = some q) (hm : (mine q p && q.at_ == a) = true) : half p M a (i + 1) = half p M a i ++ q.b := by
  unfold half
  rw [List.take_add_one, h, List.filter_append, List.flatMap_append]
  show _ ++ (_ ++ ([q].filter _).flatMap P.b) = _
  rw [List.filter_cons, if_pos hm, ← List.append_assoc]
  simp
theorem half_no {p q : P} {M : List P} {a i : Nat} (h : M[i]? = some q) (hm : (mine q p && q.at_ == a) = false) : half p M a (i + 1) = half p M a i := by
  unfold half
  rw [List.take_add_one, h, List.filter_append, List.flatMap_append]
  show _ ++ (_ ++ ([q].filter _).flatMap P.b) = _
  rw [List.filter_cons, if_neg (by rw [hm]; decide)]
  simp
end Fg
end Go.Proofs.Ytkjlbginggppaaa
