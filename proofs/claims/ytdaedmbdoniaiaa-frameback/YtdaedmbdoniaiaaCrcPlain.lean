/- Sums of bytes by a reflected polynomial: plain functions over numbers, and their laws: a sum hangs on the bytes by exclusive or; four bytes side by side are told. -/
import Derived.Laws.BitsAllLaws
namespace Go.Proofs.Ytdaedmbdoniaiaa.Cr
set_option linter.unusedVariables false

/-- one bit -/
def bs (s : Nat) : Nat := if s % 2 = 1 then s / 2 ^^^ 3988292384 else s / 2
theorem xor_lt {a b : Nat} (ha : a < 4294967296) (hb : b < 4294967296) : a ^^^ b < 4294967296 := Nat.xor_lt_two_pow (n := 32) ha hb
theorem bs_lt {s : Nat} (h : s < 4294967296) : bs s < 4294967296 := by
  unfold bs
  split
  · exact xor_lt (by omega) (by omega)
  · omega
theorem bs_zero : bs 0 = 0 := rfl
theorem bs_even (s : Nat) : bs (2 * s) = s := by unfold bs; rw [if_neg (by omega)]; omega
theorem half_xor (a b : Nat) : (a ^^^ b) / 2 = a / 2 ^^^ b / 2 := Nat.xor_div_two
theorem odd_xor (a b : Nat) : (a ^^^ b) % 2 = (a % 2 + b % 2) % 2 := by
  have h := Nat.testBit_xor (x := a) (y := b) (i := 0)
  rw [Nat.testBit_zero, Nat.testBit_zero, Nat.testBit_zero] at h
  have ha : a % 2 < 2 := Nat.mod_lt _ (by omega)
  have hb : b % 2 < 2 := Nat.mod_lt _ (by omega)
  have hc : (a ^^^ b) % 2 < 2 := Nat.mod_lt _ (by omega)
  generalize (a ^^^ b) % 2 = z at *
  generalize a % 2 = x at *
  generalize b % 2 = y at *
  obtain rfl | rfl : x = 0 ∨ x = 1 := by omega
  all_goals obtain rfl | rfl : y = 0 ∨ y = 1 := by omega
  all_goals obtain rfl | rfl : z = 0 ∨ z = 1 := by omega
  all_goals revert h
  all_goals decide
theorem xor_inj {a b : Nat} (h : a ^^^ b = 0) : a = b := by
  have e : (a ^^^ b) ^^^ b = b := by rw [h, Nat.zero_xor]
  rw [Nat.xor_assoc, Nat.xor_self, Nat.xor_zero] at e
  exact e
theorem bs_xor (a b : Nat) : bs (a ^^^ b) = bs a ^^^ bs b := by
  unfold bs
  rw [half_xor, odd_xor]
  have ha : a % 2 = 0 ∨ a % 2 = 1 := by omega
  have hb : b % 2 = 0 ∨ b % 2 = 1 := by omega
  rcases ha with ha | ha <;> rcases hb with hb | hb <;> rw [ha, hb] <;> simp
  · rw [Nat.xor_assoc]
  · rw [Nat.xor_assoc, Nat.xor_comm (b / 2), Nat.xor_assoc]
  · rw [Nat.xor_assoc, Nat.xor_comm 3988292384, Nat.xor_assoc, Nat.xor_self, Nat.xor_zero]
theorem bs_ker {s : Nat} (h : s < 4294967296) (h0 : bs s = 0) : s = 0 := by
  unfold bs at h0
  split at h0
  · have := xor_inj h0
    omega
  · omega
/-- n bits -/
def bsn : Nat → Nat → Nat
  | 0, s => s
  | n + 1, s => bsn n (bs s)
theorem bsn_lt {s : Nat} (h : s < 4294967296) : ∀ n, bsn n s < 4294967296
  | 0 => h
  | n + 1 => bsn_lt (bs_lt h) n
theorem bsn_zero : ∀ n, bsn n 0 = 0
  | 0 => rfl
  | n + 1 => by show bsn n (bs 0) = 0; rw [bs_zero]; exact bsn_zero n
theorem bsn_xor : ∀ n a b, bsn n (a ^^^ b) = bsn n a ^^^ bsn n b
  | 0, _, _ => rfl
  | n + 1, a, b => by show bsn n (bs (a ^^^ b)) = _; rw [bs_xor]; exact bsn_xor n _ _
theorem bsn_ker : ∀ n {s : Nat}, s < 4294967296 → bsn n s = 0 → s = 0
  | 0, _, _, h0 => h0
  | n + 1, _, h, h0 => bs_ker h (bsn_ker n (bs_lt h) h0)
theorem bsn_add : ∀ m n s, bsn (m + n) s = bsn n (bsn m s)
  | 0, n, s => by rw [Nat.zero_add]; rfl
  | m + 1, n, s => by rw [Nat.add_right_comm]; exact bsn_add m n (bs s)
theorem bsn_succ (n s : Nat) : bs (bsn n s) = bsn (n + 1) s := by rw [bsn_add n 1]; rfl
theorem bsn_shift : ∀ n s, bsn n (2 ^ n * s) = s
  | 0, s => by rw [Nat.pow_zero, Nat.one_mul]; rfl
  | n + 1, s => by
    show bsn n (bs (2 ^ (n + 1) * s)) = s
    rw [show 2 ^ (n + 1) * s = 2 * (2 ^ n * s) by rw [Nat.pow_succ, Nat.mul_comm (2 ^ n) 2, Nat.mul_assoc], bs_even]
    exact bsn_shift n s
/-- one byte -/
def by8 (s b : Nat) : Nat := bsn 8 (s ^^^ b)
/-- a list of bytes, from s on -/
def fold (s : Nat) : List Nat → Nat
  | [] => s
  | b :: l => fold (by8 s b) l
def sum (l : List Nat) : Nat := 4294967295 - fold 4294967295 l
theorem by8_lt {s b : Nat} (hs : s < 4294967296) (hb : b < 256) : by8 s b < 4294967296 := bsn_lt (xor_lt hs (by omega)) 8
theorem fold_lt : ∀ {l : List Nat} {s : Nat}, s < 4294967296 → (∀ b ∈ l, b < 256) → fold s l < 4294967296
  | [], _, hs, _ => hs
  | b :: l, s, hs, hl => by
    show fold (by8 s b) l < 4294967296
    exact fold_lt (by8_lt hs (hl b (List.mem_cons_self ..))) fun c hc => hl c (List.mem_cons_of_mem _ hc)
theorem fold_append : ∀ (l r : List Nat) (s : Nat), fold s (l ++ r) = fold (fold s l) r
  | [], _, _ => rfl
  | b :: l, r, s => fold_append l r (by8 s b)
theorem fold_snoc (l : List Nat) (b s : Nat) : fold s (l ++ [b]) = by8 (fold s l) b := fold_append l [b] s
/-- two lists laid over one another -/
def over : List Nat → List Nat → List Nat
  | a :: l, b :: r => (a ^^^ b) :: over l r
  | _, _ => []
theorem by8_xor (s t a b : Nat) : by8 (s ^^^ t) (a ^^^ b) = by8 s a ^^^ by8 t b := by
  unfold by8
  rw [← bsn_xor]
  congr 1
  rw [Nat.xor_assoc, ← Nat.xor_assoc t, Nat.xor_comm t a, Nat.xor_assoc, Nat.xor_assoc]
theorem fold_xor : ∀ (l r : List Nat) (s t : Nat), l.length = r.length → fold (s ^^^ t) (over l r) = fold s l ^^^ fold t r
  | [], [], _, _, _ => rfl
  | a :: l, b :: r, s, t, h => by
    show fold (by8 (s ^^^ t) (a ^^^ b)) (over l r) = _
    rw [by8_xor]
    exact fold_xor l r _ _ (by simpa using h)
  | [], _ :: _, _, _, h => by simp at h
  | _ :: _, [], _, _, h => by simp at h
theorem by8_inj {s t b : Nat} (hs : s < 4294967296) (ht : t < 4294967296) (h : by8 s b = by8 t b) : s = t := by
  have e := by8_xor s t b b
  rw [h, Nat.xor_self, Nat.xor_self] at e
  unfold by8 at e
  rw [Nat.xor_zero] at e
  exact xor_inj (bsn_ker 8 (xor_lt hs ht) e)
theorem fold_inj : ∀ {l : List Nat} {s t : Nat}, s < 4294967296 → t < 4294967296 → (∀ b ∈ l, b < 256) → fold s l = fold t l → s = t
  | [], _, _, _, _, _, h => h
  | b :: l, s, t, hs, ht, hl, h => by
    have hb := hl b (List.mem_cons_self ..)
    exact by8_inj hs ht (fold_inj (by8_lt hs hb) (by8_lt ht hb) (fun c hc => hl c (List.mem_cons_of_mem _ hc)) h)
/-- four bytes as one number, the lowest one first -/
def word (b0 b1 b2 b3 : Nat) : Nat := ((b0 ^^^ 2 ^ 8 * b1) ^^^ 2 ^ 16 * b2) ^^^ 2 ^ 24 * b3
theorem fold_word (b0 b1 b2 b3 : Nat) : fold 0 [b0, b1, b2, b3] = bsn 32 (word b0 b1 b2 b3) := by
  show bsn 8 (bsn 8 (bsn 8 (bsn 8 (0 ^^^ b0) ^^^ b1) ^^^ b2) ^^^ b3) = _
  have h1 : bsn 8 (0 ^^^ b0) ^^^ b1 = bsn 8 (b0 ^^^ 2 ^ 8 * b1) := by rw [Nat.zero_xor, bsn_xor, bsn_shift]
  have h2 : bsn 8 (bsn 8 (b0 ^^^ 2 ^ 8 * b1)) ^^^ b2 = bsn 16 ((b0 ^^^ 2 ^ 8 * b1) ^^^ 2 ^ 16 * b2) := by rw [← bsn_add 8 8, bsn_xor 16 _ (2 ^ 16 * b2), bsn_shift]
  have h3 : bsn 8 (bsn 16 ((b0 ^^^ 2 ^ 8 * b1) ^^^ 2 ^ 16 * b2)) ^^^ b3 = bsn 24 (word b0 b1 b2 b3) := by
    unfold word; rw [← bsn_add 16 8, bsn_xor 24 _ (2 ^ 24 * b3), bsn_shift]
  rw [h1, h2, h3, ← bsn_add 24 8]
theorem word_lt {b0 b1 b2 b3 : Nat} (h0 : b0 < 256) (h1 : b1 < 256) (h2 : b2 < 256) (h3 : b3 < 256) : word b0 b1 b2 b3 < 4294967296 := by
  unfold word
  exact xor_lt (xor_lt (xor_lt (by omega) (by omega)) (by omega)) (by omega)
theorem word_zero {b0 b1 b2 b3 : Nat} (h0 : b0 < 256) (h1 : b1 < 256) (h2 : b2 < 256) (h3 : b3 < 256) (h : word b0 b1 b2 b3 = 0) : b0 = 0 ∧ b1 = 0 ∧ b2 = 0 ∧ b3 = 0 := by
  unfold word at h
  have e3 := xor_inj h
  have l2 : (b0 ^^^ 2 ^ 8 * b1) ^^^ 2 ^ 16 * b2 < 2 ^ 24 := Nat.xor_lt_two_pow (Nat.xor_lt_two_pow (by omega) (by omega)) (by omega)
  have z3 : b3 = 0 := by omega
  subst z3
  have e2 := xor_inj (show (b0 ^^^ 2 ^ 8 * b1) ^^^ 2 ^ 16 * b2 = 0 by omega)
  have l1 : b0 ^^^ 2 ^ 8 * b1 < 2 ^ 16 := Nat.xor_lt_two_pow (by omega) (by omega)
  have z2 : b2 = 0 := by omega
  subst z2
  have e1 := xor_inj (show b0 ^^^ 2 ^ 8 * b1 = 0 by omega)
  omega
/-- four bytes side by side are told -/
theorem four {s x0 x1 x2 x3 y0 y1 y2 y3 : Nat} (a0 : x0 < 256) (a1 : x1 < 256) (a2 : x2 < 256) (a3 : x3 < 256) (c0 : y0 < 256) (c1 : y1 < 256) (c2 : y2 < 256) (c3 : y3 < 256)
    (h : fold s [x0, x1, x2, x3] = fold s [y0, y1, y2, y3]) : x0 = y0 ∧ x1 = y1 ∧ x2 = y2 ∧ x3 = y3 := by
  have e := fold_xor [x0, x1, x2, x3] [y0, y1, y2, y3] s s rfl
  rw [h, Nat.xor_self, Nat.xor_self] at e
  have e2 : fold 0 [x0 ^^^ y0, x1 ^^^ y1, x2 ^^^ y2, x3 ^^^ y3] = 0 := e
  rw [fold_word] at e2
  have lt8 : ∀ {a b : Nat}, a < 256 → b < 256 → a ^^^ b < 256 := fun ha hb => Nat.xor_lt_two_pow (n := 8) ha hb
  obtain ⟨r0, r1, r2, r3⟩ := word_zero (lt8 a0 c0) (lt8 a1 c1) (lt8 a2 c2) (lt8 a3 c3) (bsn_ker 32 (word_lt (lt8 a0 c0) (lt8 a1 c1) (lt8 a2 c2) (lt8 a3 c3)) e2)
  exact ⟨xor_inj r0, xor_inj r1, xor_inj r2, xor_inj r3⟩
theorem sum_lt (l : List Nat) : sum l < 4294967296 := by unfold sum; omega
theorem sum_inj {l r : List Nat} (hl : ∀ b ∈ l, b < 256) (hr : ∀ b ∈ r, b < 256) (h : sum l = sum r) : fold 4294967295 l = fold 4294967295 r := by
  have h1 := fold_lt (s := 4294967295) (by omega) hl
  have h2 := fold_lt (s := 4294967295) (by omega) hr
  unfold sum at h; omega
/-- lists that differ within four bytes side by side have different sums -/
theorem tells {pre post : List Nat} {x0 x1 x2 x3 y0 y1 y2 y3 : Nat} (hp : ∀ b ∈ pre, b < 256) (hq : ∀ b ∈ post, b < 256)
    (a0 : x0 < 256) (a1 : x1 < 256) (a2 : x2 < 256) (a3 : x3 < 256) (c0 : y0 < 256) (c1 : y1 < 256) (c2 : y2 < 256) (c3 : y3 < 256)
    (h : sum (pre ++ ([x0, x1, x2, x3] ++ post)) = sum (pre ++ ([y0, y1, y2, y3] ++ post))) : x0 = y0 ∧ x1 = y1 ∧ x2 = y2 ∧ x3 = y3 := by
  have hb : ∀ {z0 z1 z2 z3 : Nat}, z0 < 256 → z1 < 256 → z2 < 256 → z3 < 256 → ∀ b ∈ [z0, z1, z2, z3], b < 256 := by
    intro z0 z1 z2 z3 h0 h1 h2 h3 b hb
    simp at hb
    rcases hb with rfl | rfl | rfl | rfl <;> assumption
  have hall : ∀ {z0 z1 z2 z3 : Nat}, z0 < 256 → z1 < 256 → z2 < 256 → z3 < 256 → ∀ b ∈ pre ++ ([z0, z1, z2, z3] ++ post), b < 256 := by
    intro z0 z1 z2 z3 h0 h1 h2 h3 b hm
    rcases List.mem_append.1 hm with hm | hm
    · exact hp b hm
    · rcases List.mem_append.1 hm with hm | hm
      · exact hb h0 h1 h2 h3 b hm
      · exact hq b hm
  have e := sum_inj (hall a0 a1 a2 a3) (hall c0 c1 c2 c3) h
  rw [fold_append, fold_append, fold_append, fold_append] at e
  have hs := fold_lt (s := 4294967295) (by omega) hp
  exact four a0 a1 a2 a3 c0 c1 c2 c3 (fold_inj (fold_lt hs (hb a0 a1 a2 a3)) (fold_lt hs (hb c0 c1 c2 c3)) hq e)
/-- all bits turned -/
theorem turned {x : Nat} (h : x < 4294967296) : 4294967295 - x = 4294967295 ^^^ x := by
  apply Nat.eq_of_testBit_eq
  intro i
  have e1 : (4294967295 - x).testBit i = (decide (i < 32) && !x.testBit i) := by
    rw [show 4294967295 - x = 2 ^ 32 - (x + 1) by omega]
    exact Nat.testBit_two_pow_sub_succ h i
  have e2 : Nat.testBit 4294967295 i = decide (i < 32) := by
    rw [show 4294967295 = 2 ^ 32 - 1 by rfl, Nat.testBit_two_pow_sub_one]
  rw [e1, Nat.testBit_xor, e2]
  by_cases hi : i < 32
  · simp [hi]
  · have : x.testBit i = false := Nat.testBit_lt_two_pow (Nat.lt_of_lt_of_le h (Nat.pow_le_pow_right (n := 2) (i := 32) (by omega) (by omega)))
    simp [hi, this]
theorem over_length : ∀ {l r : List Nat}, l.length = r.length → (over l r).length = l.length
  | [], [], _ => rfl
  | a :: l, b :: r, h => by show (over l r).length + 1 = _; rw [over_length (by simpa using h)]; rfl
  | [], _ :: _, h => by simp at h
  | _ :: _, [], h => by simp at h
theorem over_lt : ∀ {l r : List Nat}, (∀ b ∈ l, b < 256) → (∀ b ∈ r, b < 256) → ∀ b ∈ over l r, b < 256
  | a :: l, c :: r, hl, hr => by
    intro b hb
    rcases List.mem_cons.1 hb with rfl | hb
    · exact Nat.xor_lt_two_pow (n := 8) (hl a (List.mem_cons_self ..)) (hr c (List.mem_cons_self ..))
    · exact over_lt (fun d hd => hl d (List.mem_cons_of_mem _ hd)) (fun d hd => hr d (List.mem_cons_of_mem _ hd)) b hb
  | [], _, _, _ => by intro b hb; cases hb
  | _ :: _, [], _, _ => by intro b hb; cases hb
theorem over_self : ∀ (l : List Nat), ∀ s, fold s (over l l) = fold s (l.map fun _ => 0)
  | [], _ => rfl
  | a :: l, s => by show fold (by8 s (a ^^^ a)) (over l l) = fold (by8 s 0) _; rw [Nat.xor_self]; exact over_self l _
theorem fold_nought : ∀ (l : List Nat), fold 0 (l.map fun _ => 0) = 0
  | [] => rfl
  | a :: l => by show fold (by8 0 0) (l.map fun _ => 0) = 0; rw [show by8 0 0 = 0 from rfl]; exact fold_nought l
/-- three lists, and what they are laid over one another -/
theorem turns {a b c : List Nat} (hb : b.length = a.length) (hc : c.length = a.length) (ha' : ∀ x ∈ a, x < 256) (hb' : ∀ x ∈ b, x < 256) (hc' : ∀ x ∈ c, x < 256) :
    ((sum a ^^^ sum b) ^^^ sum c) ^^^ sum (over (over a b) c) = 0 := by
  have hab := over_length (l := a) (r := b) hb.symm
  have hd' := over_lt (over_lt ha' hb') hc'
  have l0 : (4294967295 : Nat) < 4294967296 := by omega
  have e1 := fold_xor a b 4294967295 4294967295 hb.symm
  have e2 := fold_xor (over a b) c (4294967295 ^^^ 4294967295) 4294967295 (by rw [hab, hc])
  rw [Nat.xor_self, Nat.zero_xor] at e2
  rw [Nat.xor_self] at e1
  unfold sum
  rw [turned (fold_lt l0 ha'), turned (fold_lt l0 hb'), turned (fold_lt l0 hc'), turned (fold_lt l0 hd'), e2, e1]
  generalize fold 4294967295 a = x
  generalize fold 4294967295 b = y
  generalize fold 4294967295 c = z
  apply Nat.eq_of_testBit_eq
  intro i
  simp only [Nat.testBit_xor, Nat.zero_testBit]
  cases Nat.testBit 4294967295 i <;> cases x.testBit i <;> cases y.testBit i <;> cases z.testBit i <;> rfl
end Go.Proofs.Ytdaedmbdoniaiaa.Cr
