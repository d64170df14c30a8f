/- Maps of tiles: their texts, line by line, as they are written; walls; what is free. -/
import Derived.Test.YtbfffgnalopfbaaTilRef
namespace Go.Proofs.Ytbfffgnalopfbaa.Ti
set_option linter.unusedVariables false

def str (l : List UInt8) : ByteArray := ⟨l.toArray⟩
theorem str_list (l : List UInt8) : (str l).data.toList = l := rfl
theorem str_size (l : List UInt8) : (str l).size = l.length := rfl
theorem str_add (l k : List UInt8) : str l ++ str k = str (l ++ k) := ByteArray.mk_append_mk l k
theorem str_inj {l k : List UInt8} (h : str l = str k) : l = k := by
  have := congrArg (fun b => b.data.toList) h
  exact this
/-- behind y lines, and x signs of the next -/
def tx (m : M) (y x : Nat) : List UInt8 := flat (toks ((linesOf m).take y)) ++ flat ((lineOf m y).take x)
theorem tx_start (m : M) : tx m 0 0 = [] := by simp [tx, toks, flat]
theorem tx_sign {m : M} {y x : Nat} (h : x < m.W.toNat) : tx m y (x + 1) = tx m y x ++ bs (code m x y) := by
  unfold tx
  rw [List.take_add_one, line_at h, flat_append, List.append_assoc]
  congr 2
  simp [flat]
theorem tx_line {m : M} {y x : Nat} (hy : y < m.H.toNat) (hx : x = m.W.toNat) : tx m (y + 1) 0 = tx m y x ++ [10] := by
  unfold tx
  have h1 : (lineOf m y).take x = lineOf m y := List.take_of_length_le (by rw [line_len]; omega)
  rw [List.take_add_one, lines_at hy, h1]
  simp [toks, flat, bs]
theorem tx_end {m : M} {y : Nat} (hy : y = m.H.toNat) : tx m y 0 = textOf m := by
  unfold tx textOf text
  rw [List.take_of_length_le (by rw [lines_len]; omega)]
  simp [flat]
theorem flat_le : ∀ (ks : List Nat), (flat ks).length ≤ 3 * ks.length
  | [] => by simp [flat]
  | k :: ks => by
    have := flat_le ks
    have h := bs_le k
    rw [flat_cons, List.length_append, List.length_cons]; omega
theorem toks_le {w : Nat} : ∀ {L : List (List Nat)}, (∀ c ∈ L, c.length ≤ w) → (toks L).length ≤ L.length * (w + 1)
  | [], _ => by simp [toks]
  | c :: L, h => by
    have h1 := toks_le (L := L) fun d hd => h d (List.mem_cons_of_mem _ hd)
    have h2 := h c (List.mem_cons_self ..)
    have e : toks (c :: L) = c ++ [4] ++ toks L := by simp [toks]
    have e2 : (c :: L).length * (w + 1) = L.length * (w + 1) + (w + 1) := by rw [List.length_cons, Nat.add_mul, Nat.one_mul]
    have e3 : ([4] : List Nat).length = 1 := rfl
    rw [e, List.length_append, List.length_append, e2, e3]
    omega
theorem tx_le {m : M} {y x : Nat} (h : Dims m) : (tx m y x).length ≤ 3264 := by
  obtain ⟨h1, h2, h3, h4, _⟩ := h
  unfold tx
  have a1 := flat_le (toks ((linesOf m).take y))
  have a2 := flat_le ((lineOf m y).take x)
  have a3 := toks_le (w := 32) (L := (linesOf m).take y) (fun c hc => by rw [(lines_lines m).len c (List.mem_of_mem_take hc)]; omega)
  have a4 : ((linesOf m).take y).length ≤ 32 := by rw [List.length_take, lines_len]; omega
  have a5 : ((lineOf m y).take x).length ≤ 32 := by rw [List.length_take, line_len]; omega
  have a6 : ((linesOf m).take y).length * (32 + 1) ≤ 32 * 33 := Nat.mul_le_mul a4 (by omega)
  rw [List.length_append]
  omega
theorem code_wall {m : M} {x y : Nat} (h : wall m x y = true) : code m x y = 1 := by unfold code; rw [h]; rfl
theorem code_in {m : M} {x y : Nat} (h : wall m x y = false) (hs : mid x y ∈ m.sp) : code m x y = 3 := by unfold code; rw [h, if_neg (by decide), if_pos hs]
theorem code_floor {m : M} {x y : Nat} (h : wall m x y = false) (hs : ¬ mid x y ∈ m.sp) : code m x y = 2 := by unfold code; rw [h, if_neg (by decide), if_neg hs]
/-- what Text answers -/
def ansT (m : M) : List UInt8 := if formedB m = true then textOf m else []
def ansF (m : M) : Int := if formedB m = true then 0 else 1
theorem ansT_pos {m : M} (h : Formed m) : ansT m = textOf m := if_pos (formedB_iff.2 h)
theorem ansF_pos {m : M} (h : Formed m) : ansF m = 0 := if_pos (formedB_iff.2 h)
theorem ansT_neg {m : M} (h : ¬ Formed m) : ansT m = [] := if_neg (by rw [formedB_not h]; decide)
theorem ansF_neg {m : M} (h : ¬ Formed m) : ansF m = 1 := if_neg (by rw [formedB_not h]; decide)
theorem dims_ws {m : M} (h : Dims m) {x y : Nat} (hx : x < m.W.toNat) (hy : y < m.H.toNat) : y * m.W.toNat + x < m.ws.length ∧ m.ws[y * m.W.toNat + x]? = some (wall m x y) := by
  obtain ⟨h1, h2, h3, h4, h5⟩ := h
  have hlen : m.ws.length = m.H.toNat * m.W.toNat := by
    have hW : (m.W.toNat : Int) = m.W := by omega
    have hH : (m.H.toNat : Int) = m.H := by omega
    have : (m.ws.length : Int) = ((m.H.toNat * m.W.toNat : Nat) : Int) := by rw [h5, Int.natCast_mul, hW, hH, Int.mul_comm]
    omega
  have hlt : y * m.W.toNat + x < m.ws.length := by
    rw [hlen]
    have : (y + 1) * m.W.toNat ≤ m.H.toNat * m.W.toNat := Nat.mul_le_mul_right _ (by omega)
    rw [Nat.add_mul] at this
    omega
  refine ⟨hlt, ?_⟩
  unfold wall
  rw [List.getD_eq_getElem?_getD, List.getElem?_eq_getElem hlt]
  rfl
/-- a box: least and most of both directions -/
structure Bx where
  lx : Int
  ly : Int
  mx : Int
  my : Int
def Over (x y : Nat) (b : Bx) : Prop := (x : Int) * 65536 < b.mx ∧ b.lx < (x : Int) * 65536 + 65536 ∧ (y : Int) * 65536 < b.my ∧ b.ly < (y : Int) * 65536 + 65536
def Within (m : M) (b : Bx) : Prop := b.lx ≤ b.mx ∧ b.ly ≤ b.my ∧ 0 ≤ b.lx ∧ 0 ≤ b.ly ∧ b.mx ≤ m.W * 65536 ∧ b.my ≤ m.H * 65536
def Free (m : M) (b : Bx) : Prop := Formed m ∧ Within m b ∧ ∀ x y, x < m.W.toNat → y < m.H.toNat → wall m x y = true → ¬ Over x y b
/-- a tile that is a wall, or none -/
def WallAt (m : M) (x y : Int) : Prop := ¬ Formed m ∨ x < 0 ∨ m.W ≤ x ∨ y < 0 ∨ m.H ≤ y ∨ wall m x.toNat y.toNat = true
def wallB (m : M) (x y : Int) : Bool := !formedB m || (decide (x < 0) || (decide (m.W ≤ x) || (decide (y < 0) || (decide (m.H ≤ y) || wall m x.toNat y.toNat))))
theorem wallB_iff {m : M} {x y : Int} : wallB m x y = true ↔ WallAt m x y := by
  unfold wallB WallAt
  rw [Bool.or_eq_true, Bool.or_eq_true, Bool.or_eq_true, Bool.or_eq_true, Bool.or_eq_true, decide_eq_true_iff, decide_eq_true_iff, decide_eq_true_iff, decide_eq_true_iff, Bool.not_eq_true', ← Bool.not_eq_true, formedB_iff]
theorem free_less {m : M} {b c : Bx} (h : Free m b) (h1 : b.lx ≤ c.lx) (h2 : c.lx ≤ c.mx) (h3 : c.mx ≤ b.mx) (h4 : b.ly ≤ c.ly) (h5 : c.ly ≤ c.my) (h6 : c.my ≤ b.my) : Free m c := by
  obtain ⟨f1, ⟨w1, w2, w3, w4, w5, w6⟩, f3⟩ := h
  refine ⟨f1, ⟨h2, h5, by omega, by omega, by omega, by omega⟩, fun x y hx hy hw ho => f3 x y hx hy hw ?_⟩
  obtain ⟨o1, o2, o3, o4⟩ := ho
  exact ⟨by omega, by omega, by omega, by omega⟩
end Go.Proofs.Ytbfffgnalopfbaa.Ti
