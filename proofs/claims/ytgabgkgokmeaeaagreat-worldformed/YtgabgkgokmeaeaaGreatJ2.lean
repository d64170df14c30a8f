/- Joined: VecCalls, Lie, BoxPlain, BoxWalks, BoxCalls, BoxPlain2, BoxRef, TilFree, BitPlain, BitPlain2, EntPlain, MvPlain, MvPlain2, RandPlain, RdPlain, CmdPlain. -/
import Derived.Test.YtgabgkgokmeaeaaGreatJ1
import Derived.WalkSmall
import Derived.StillTactics
import Derived.Laws.Pointers
import Derived.Laws.StructEq
import Derived.Deep.RegionHeld3
import Derived.Deep.QuietTactic
import Derived.BigQuiet
import Derived.Below
import Derived.WalkKit
import Derived.Laws.NewBlocks
import Derived.Laws.BitsAllLaws
import Derived.RowKit
/- What each function of layer 2 answers, as a call: the program's (VcW) and the document's own (VcR). Nothing that lay in memory before turns. -/
namespace Go.Proofs.YtgabgkgokmeaeaaGreat
open Go.RowKit
set_option linter.unusedVariables false

theorem below_three (w : World) (o1 o2 o3 : Obj) : Below w.heap.size w (((w.alloc o1).alloc o2).alloc o3).drew :=
  ((((Below.refl _ _).alloc (Nat.le_refl _) _).alloc (by simp) _).alloc (by simp; omega) _).drew
theorem below_two (w : World) (o1 o2 : Obj) : Below w.heap.size w ((w.alloc o1).alloc o2).drew :=
  (((Below.refl _ _).alloc (Nat.le_refl _) _).alloc (by simp) _).drew
theorem below_one (w : World) (o1 : Obj) : Below w.heap.size w (w.alloc o1) := (Below.refl _ _).alloc (Nat.le_refl _) _
theorem ret_bool {a b : Bool} {p : Prop} (h : a = b) (hp : p) : Ending.returned (.bool a) = .returned (.bool b) ∧ p := by rw [h]; exact ⟨rfl, hp⟩
theorem ret_intp {k : IntKind} {a b : Int} {p : Prop} (h : a = b) (hp : p) : Ending.returned (.int k a) = .returned (.int k b) ∧ p := by rw [h]; exact ⟨rfl, hp⟩

/-- two places are compared number by number -/
theorem vec_eql (ax ay bx b_y : Int) (w : World) : (binOp .eql 49 (.agg #[.int .i64 ax, .int .i64 ay]) (.agg #[.int .i64 bx, .int .i64 b_y])).run Tryz.prog w = .ok (.bool ((ax == bx) && (ay == b_y))) w := by
  rw [run_eql_struct, run_equalIn_agg (d := 9999) (ht := by kernel_rfl) (hp := by kernel_rfl)]
  simp [go_sem]
  by_cases h : ax = bx <;> by_cases h' : ay = b_y <;> simp [h, h']

namespace VcW

set_option maxHeartbeats 1000000 in
theorem add_any (ax ay bx b_y : Int) (w : World) :
    Calls Tryz.prog 56 #[.agg #[.int .i64 ax, .int .i64 ay], .agg #[.int .i64 bx, .int .i64 b_y]] w fun e w' => e = .returned (.agg #[.int .i64 (Fx.add ax bx), .int .i64 (Fx.add ay b_y)]) ∧ Below w.heap.size w w' := by
  go_enter Tryz.func56, Tryz.ntmps56
  go_wp2_with fail
  go_region_held3 (fun w' => w'.cell? ⟨w.heap.size, 0, none⟩ = some (.int .i64 ax) ∧ w'.cell? ⟨w.heap.size, 1, none⟩ = some (.int .i64 ay) ∧ w'.cell? ⟨w.heap.size + 1, 0, none⟩ = some (.int .i64 bx) ∧ w'.cell? ⟨w.heap.size + 1, 1, none⟩ = some (.int .i64 b_y)) (simp [go_sem, World.cell?_alloc_past])
    ((go_at_call 84; refine (FxW.add_any _ _ _).mono ?_; rintro e w' ⟨rfl, rfl⟩))
  go_wp2_with fail
  exact bodyPost_ret (v := .agg #[.int .i64 (Fx.add ax bx), .int .i64 (Fx.add ay b_y)]) (by simp [results, Tryz.results56, go_sem]) rfl ⟨rfl, below_three _ _ _ _⟩

set_option maxHeartbeats 1000000 in
theorem sub_any (ax ay bx b_y : Int) (w : World) :
    Calls Tryz.prog 55 #[.agg #[.int .i64 ax, .int .i64 ay], .agg #[.int .i64 bx, .int .i64 b_y]] w fun e w' => e = .returned (.agg #[.int .i64 (Fx.sub ax bx), .int .i64 (Fx.sub ay b_y)]) ∧ Below w.heap.size w w' := by
  go_enter Tryz.func55, Tryz.ntmps55
  go_wp2_with fail
  go_region_held3 (fun w' => w'.cell? ⟨w.heap.size, 0, none⟩ = some (.int .i64 ax) ∧ w'.cell? ⟨w.heap.size, 1, none⟩ = some (.int .i64 ay) ∧ w'.cell? ⟨w.heap.size + 1, 0, none⟩ = some (.int .i64 bx) ∧ w'.cell? ⟨w.heap.size + 1, 1, none⟩ = some (.int .i64 b_y)) (simp [go_sem, World.cell?_alloc_past])
    ((go_at_call 83; refine (FxW.sub_any _ _ _).mono ?_; rintro e w' ⟨rfl, rfl⟩))
  go_wp2_with fail
  exact bodyPost_ret (v := .agg #[.int .i64 (Fx.sub ax bx), .int .i64 (Fx.sub ay b_y)]) (by simp [results, Tryz.results55, go_sem]) rfl ⟨rfl, below_three _ _ _ _⟩

set_option maxHeartbeats 1000000 in
theorem formed_any (ax ay : Int) (w : World) :
    Calls Tryz.prog 74 #[.agg #[.int .i64 ax, .int .i64 ay]] w fun e w' => e = .returned (.bool (Vc.formedB ax ay)) ∧ Below w.heap.size w w' := by
  have he := vec_eql
  go_enter Tryz.func74, Tryz.ntmps74
  go_wp2_with fail
  go_region_held3 (fun w' => w'.cell? ⟨w.heap.size, 0, none⟩ = some (.int .i64 ax) ∧ w'.cell? ⟨w.heap.size, 1, none⟩ = some (.int .i64 ay)) (simp [go_sem, World.cell?_alloc_past])
    ((go_at_call 98; refine (within_any _ _).mono ?_; rintro e w' ⟨rfl, rfl⟩))
  all_goals rename_i hH
  all_goals clear hH
  all_goals go_wp2
  all_goals go_ret
  all_goals exact ret_bool (by rw [Vc.within_eq, Vc.within_eq]; rfl) (below_two _ _ _)
end VcW

namespace VcR

set_option maxHeartbeats 1000000 in
theorem formed_any (ax ay : Int) (w : World) :
    Calls Tryz.prog 48 #[.agg #[.int .i64 ax, .int .i64 ay]] w fun e w' => e = .returned (.bool (Vc.formedB ax ay)) ∧ Below w.heap.size w w' := by
  by_cases h1 : -134217728 ≤ ax
  · by_cases h2 : ax ≤ 134217728
    · by_cases h3 : -134217728 ≤ ay
      · by_cases h4 : ay ≤ 134217728
        · have e : Vc.formedB ax ay = true := Vc.formedB_iff.2 ⟨⟨h1, h2⟩, h3, h4⟩
          rw [e]; clear e
          go_enter Tryz.func48, Tryz.ntmps48
          go_wp2
          go_ret
          exact ⟨rfl, below_one _ _⟩
        · have e : Vc.formedB ax ay = false := by rw [Bool.eq_false_iff]; intro c; rw [Vc.formedB_iff] at c; omega
          rw [e]; clear e
          go_enter Tryz.func48, Tryz.ntmps48
          go_wp2
          go_ret
          exact ⟨rfl, below_one _ _⟩
      · have e : Vc.formedB ax ay = false := by rw [Bool.eq_false_iff]; intro c; rw [Vc.formedB_iff] at c; omega
        rw [e]; clear e
        go_enter Tryz.func48, Tryz.ntmps48
        go_wp2
        go_ret
        exact ⟨rfl, below_one _ _⟩
    · have e : Vc.formedB ax ay = false := by rw [Bool.eq_false_iff]; intro c; rw [Vc.formedB_iff] at c; omega
      rw [e]; clear e
      go_enter Tryz.func48, Tryz.ntmps48
      go_wp2
      go_ret
      exact ⟨rfl, below_one _ _⟩
  · have e : Vc.formedB ax ay = false := by rw [Bool.eq_false_iff]; intro c; rw [Vc.formedB_iff] at c; omega
    rw [e]; clear e
    go_enter Tryz.func48, Tryz.ntmps48
    go_wp2
    go_ret
    exact ⟨rfl, below_one _ _⟩
end VcR
end Go.Proofs.YtgabgkgokmeaeaaGreat


/- Where a call's own blocks lie: block n holds these cells, and may be written; nothing that lay there before the call has turned. Callees that write nothing old leave it so. -/
namespace Go.Proofs.YtgabgkgokmeaeaaGreat
open Go.RowKit
set_option linter.unusedVariables false

/-- the cells of block n from place o on -/
def LieAt (n : Nat) : Nat → List Value → World → Prop
  | _, [], u => n < u.heap.size
  | o, v :: vs, u => u.cell? ⟨n, o, none⟩ = some v ∧ u.frozen? ⟨n, o, none⟩ = false ∧ LieAt n (o + 1) vs u
/-- the blocks that are named -/
def Lie : List (Nat × List Value) → World → Prop
  | [], _ => True
  | b :: bs, u => LieAt b.1 0 b.2 u ∧ Lie bs u
/-- beside a world: the blocks that came since -/
def Keep (w : World) (bs : List (Nat × List Value)) (u : World) : Prop := Lie bs u ∧ w.heap.size ≤ u.heap.size ∧ Below w.heap.size w u

theorem LieAt.lt {n : Nat} {u : World} : ∀ {o : Nat} {vs : List Value}, LieAt n o vs u → n < u.heap.size
  | _, [], h => h
  | o, _ :: vs, h => LieAt.lt (o := o + 1) (vs := vs) h.2.2
theorem LieAt.keep {n : Nat} {u u' : World} (hb : Below u.heap.size u u') : ∀ {o : Nat} {vs : List Value}, LieAt n o vs u → LieAt n o vs u'
  | _, [], h => Nat.lt_of_lt_of_le h hb.size
  | o, v :: vs, h => ⟨(hb.cell (p := ⟨n, o, none⟩) (LieAt.lt h.2.2)).trans h.1, (hb.frozen (p := ⟨n, o, none⟩) (LieAt.lt h.2.2)).trans h.2.1, LieAt.keep hb h.2.2⟩
theorem Lie.keep {u u' : World} (hb : Below u.heap.size u u') : ∀ {bs : List (Nat × List Value)}, Lie bs u → Lie bs u'
  | [], _ => trivial
  | b :: bs, h => ⟨LieAt.keep hb h.1, Lie.keep hb h.2⟩
theorem Keep.on {w u u' : World} {bs : List (Nat × List Value)} (h : Keep w bs u) (hb : Below u.heap.size u u') : Keep w bs u' :=
  ⟨h.1.keep hb, Nat.le_trans h.2.1 hb.size, h.2.2.trans (hb.mono h.2.1)⟩
theorem Keep.drew {w u : World} {bs : List (Nat × List Value)} (h : Keep w bs u) : Keep w bs u.drew := h.on (Below.refl _ _).drew
theorem Keep.alloc {w u : World} {bs : List (Nat × List Value)} (h : Keep w bs u) (o : Obj) : Keep w bs (u.alloc o) := h.on ((Below.refl _ _).alloc (Nat.le_refl _) o)
/-- one block more -/
theorem Keep.more {w u : World} {bs : List (Nat × List Value)} {n : Nat} {vs : List Value} (h : Keep w bs u) (hn : LieAt n 0 vs u) : Keep w ((n, vs) :: bs) u :=
  ⟨⟨hn, h.1⟩, h.2⟩
theorem Keep.less {w u : World} {bs : List (Nat × List Value)} {b : Nat × List Value} (h : Keep w (b :: bs) u) : Keep w bs u := ⟨h.1.2, h.2⟩
/-- the block that was laid just ahead of a call that writes nothing old -/
theorem LieAt.new4 {u u' : World} {v0 v1 v2 v3 : Value} {t : TypeId} (hb : Below (u.alloc (.cells #[v0, v1, v2, v3] t)).heap.size (u.alloc (.cells #[v0, v1, v2, v3] t)) u') : LieAt u.heap.size 0 [v0, v1, v2, v3] u' :=
  LieAt.keep hb (by simp [LieAt, go_sem])
theorem LieAt.new4d {u u' : World} {v0 v1 v2 v3 : Value} {t : TypeId} (hb : Below (u.alloc (.cells #[v0, v1, v2, v3] t)).drew.heap.size (u.alloc (.cells #[v0, v1, v2, v3] t)).drew u') : LieAt u.heap.size 0 [v0, v1, v2, v3] u' :=
  LieAt.keep hb (by simp [LieAt, go_sem])
theorem LieAt.new2 {u u' : World} {v0 v1 : Value} {t : TypeId} (hb : Below (u.alloc (.cells #[v0, v1] t)).heap.size (u.alloc (.cells #[v0, v1] t)) u') : LieAt u.heap.size 0 [v0, v1] u' :=
  LieAt.keep hb (by simp [LieAt, go_sem])

theorem LieAt.new2d {u u' : World} {v0 v1 : Value} {t : TypeId} (hb : Below (u.alloc (.cells #[v0, v1] t)).drew.heap.size (u.alloc (.cells #[v0, v1] t)).drew u') : LieAt u.heap.size 0 [v0, v1] u' :=
  LieAt.keep hb (by simp [LieAt, go_sem])

/-- a cell of another block is written -/
theorem LieAt.far {u : World} {n m i : Nat} {v : Value} (h : n ≠ m) : ∀ {o : Nat} {vs : List Value}, LieAt n o vs u → LieAt n o vs (u.setCell ⟨m, i, none⟩ v)
  | _, [], hl => by simpa [LieAt] using hl
  | o, x :: vs, hl => ⟨(World.cell?_of_block (w := u) (Below.heap_setCell u ⟨m, i, none⟩ v n h)).trans hl.1, by rw [World.frozen?_setCell]; exact hl.2.1, LieAt.far h hl.2.2⟩
theorem Lie.far {u : World} {m i : Nat} {v : Value} : ∀ {bs : List (Nat × List Value)}, (∀ b ∈ bs, b.1 ≠ m) → Lie bs u → Lie bs (u.setCell ⟨m, i, none⟩ v)
  | [], _, _ => trivial
  | b :: bs, h, hl => ⟨LieAt.far (h b (List.mem_cons_self ..)) hl.1, Lie.far (fun c hc => h c (List.mem_cons_of_mem _ hc)) hl.2⟩
theorem Keep.far {w u : World} {bs : List (Nat × List Value)} {m i : Nat} {v : Value} (h : Keep w bs u) (hm : w.heap.size ≤ m) (hf : ∀ b ∈ bs, b.1 ≠ m) : Keep w bs (u.setCell ⟨m, i, none⟩ v) :=
  ⟨h.1.far hf, by simpa using h.2.1, h.2.2.setCell hm v⟩
theorem Lie.lt {u : World} : ∀ {bs : List (Nat × List Value)}, Lie bs u → ∀ b ∈ bs, b.1 < u.heap.size
  | [], _, _, hb => by cases hb
  | c :: bs, h, b, hb => by
    rcases List.mem_cons.1 hb with rfl | hb
    · exact LieAt.lt h.1
    · exact Lie.lt h.2 b hb
/-- a block that came later is written -/
theorem Keep.far4 {w u u0 : World} {bs : List (Nat × List Value)} {v0 v1 v2 v3 : Value} (h : Keep w bs u) (h0 : Keep w bs u0) :
    Keep w bs ((((u.setCell ⟨u0.heap.size, 0, none⟩ v0).setCell ⟨u0.heap.size, 1, none⟩ v1).setCell ⟨u0.heap.size, 2, none⟩ v2).setCell ⟨u0.heap.size, 3, none⟩ v3) := by
  have hm := h0.2.1
  have hf : ∀ b ∈ bs, b.1 ≠ u0.heap.size := fun b hb => Nat.ne_of_lt (Lie.lt h0.1 b hb)
  exact (((h.far hm hf).far hm hf).far hm hf).far hm hf
theorem Keep.far4' {w u : World} {bs : List (Nat × List Value)} {m : Nat} {v0 v1 v2 v3 : Value} (h : Keep w bs u) (hm : w.heap.size ≤ m) (hf : ∀ b ∈ bs, b.1 ≠ m) :
    Keep w bs ((((u.setCell ⟨m, 0, none⟩ v0).setCell ⟨m, 1, none⟩ v1).setCell ⟨m, 2, none⟩ v2).setCell ⟨m, 3, none⟩ v3) :=
  (((h.far hm hf).far hm hf).far hm hf).far hm hf
/-- the later block is named too: laid just now -/
theorem Keep.name4 {w u : World} {bs : List (Nat × List Value)} {v0 v1 v2 v3 : Value} {t : TypeId} (h : Keep w bs u) : Keep w ((u.heap.size, [v0, v1, v2, v3]) :: bs) (u.alloc (.cells #[v0, v1, v2, v3] t)) :=
  (h.alloc _).more (by simp [LieAt, go_sem])
theorem Keep.name2 {w u : World} {bs : List (Nat × List Value)} {v0 v1 : Value} {t : TypeId} (h : Keep w bs u) : Keep w ((u.heap.size, [v0, v1]) :: bs) (u.alloc (.cells #[v0, v1] t)) :=
  (h.alloc _).more (by simp [LieAt, go_sem])
/-- a block that came later is written -/
theorem Keep.far2 {w u u0 : World} {bs : List (Nat × List Value)} {v0 v1 : Value} (h : Keep w bs u) (h0 : Keep w bs u0) :
    Keep w bs ((u.setCell ⟨u0.heap.size, 0, none⟩ v0).setCell ⟨u0.heap.size, 1, none⟩ v1) := by
  have hm := h0.2.1
  have hf : ∀ b ∈ bs, b.1 ≠ u0.heap.size := fun b hb => Nat.ne_of_lt (Lie.lt h0.1 b hb)
  exact (h.far hm hf).far hm hf
theorem Keep.nameSet2 {w u u0 : World} {bs : List (Nat × List Value)} {x0 x1 v0 v1 : Value} (h : Keep w bs u) (h0 : Keep w bs u0) (hz : LieAt u0.heap.size 0 [x0, x1] u) :
    Keep w ((u0.heap.size, [v0, v1]) :: bs) ((u.setCell ⟨u0.heap.size, 0, none⟩ v0).setCell ⟨u0.heap.size, 1, none⟩ v1) := by
  refine (h.far2 h0).more ?_
  simp only [LieAt, Nat.reduceAdd] at hz ⊢
  obtain ⟨z0, y0, z1, y1, hl⟩ := hz
  simp [World.cell?_setCell_same', World.cell?_setCell_other, z0, z1, y0, y1, hl]
/-- or written just now -/
theorem Keep.nameSet4 {w u u0 : World} {bs : List (Nat × List Value)} {x0 x1 x2 x3 v0 v1 v2 v3 : Value} (h : Keep w bs u) (h0 : Keep w bs u0) (hz : LieAt u0.heap.size 0 [x0, x1, x2, x3] u) :
    Keep w ((u0.heap.size, [v0, v1, v2, v3]) :: bs) ((((u.setCell ⟨u0.heap.size, 0, none⟩ v0).setCell ⟨u0.heap.size, 1, none⟩ v1).setCell ⟨u0.heap.size, 2, none⟩ v2).setCell ⟨u0.heap.size, 3, none⟩ v3) := by
  refine (h.far4 h0).more ?_
  simp only [LieAt, Nat.reduceAdd] at hz ⊢
  obtain ⟨z0, y0, z1, y1, z2, y2, z3, y3, hl⟩ := hz
  simp [World.cell?_setCell_same', World.cell?_setCell_other, z0, z1, z2, z3, y0, y1, y2, y3, hl]
end Go.Proofs.YtgabgkgokmeaeaaGreat


/- The plain functions of layer 3 (boxes, and what a way meets) and what follows of them; no Go in sight. -/
namespace Go.Proofs.YtgabgkgokmeaeaaGreat
set_option linter.unusedVariables false
namespace Bx

def has (l m n : Int) : Bool := decide (l ≤ n) && decide (n ≤ m)
def laps (l m l' m' : Int) : Bool := decide (l < m') && decide (l' < m)
def formed (lx ly mx my : Int) : Bool := Vc.formedB lx ly && Vc.formedB mx my && decide (lx ≤ mx) && decide (ly ≤ my)
def inB (px py lx ly mx my : Int) : Bool := formed lx ly mx my && has lx mx px && has ly my py
def overlap (lx ly mx my lx' ly' mx' my' : Int) : Bool := formed lx ly mx my && formed lx' ly' mx' my' && laps lx mx lx' mx' && laps ly my ly' my'
/-- may it be a time? -/
def right (n d : Int) : Bool := decide (1 ≤ d) && decide (d ≤ 1073741824) && decide (0 ≤ n) && decide (n ≤ 1073741824)
def ahead (n d n' d' : Int) : Bool := right n d && right n' d' && decide (n * d' < n' * d)

/-- a stay: from its first time to its last one -/
structure St where
  ok : Bool
  fn : Int
  fd : Int
  ln : Int
  ld : Int
/-- the stay of a way that leads up -/
def up (l m f t : Int) : St :=
  if m < f ∨ t < l then ⟨false, 0, 0, 0, 0⟩
  else ⟨true, if f < l then l - f else 0, if f < l then t - f else 1, if m < t then m - f else 1, if m < t then t - f else 1⟩
def st (l m f t : Int) : St := if t < f then up (-m) (-l) (-f) (-t) else up l m f t

/-- the later one of both times, the first if they are the same -/
def laterN (n d n' d' : Int) : Int := if ahead n d n' d' then n' else n
def laterD (n d n' d' : Int) : Int := if ahead n d n' d' then d' else d
/-- when both are there -/
def metOk (x y : St) : Bool :=
  x.ok && y.ok && !(ahead x.ln x.ld (laterN x.fn x.fd y.fn y.fd) (laterD x.fn x.fd y.fn y.fd)) && !(ahead y.ln y.ld (laterN x.fn x.fd y.fn y.fd) (laterD x.fn x.fd y.fn y.fd))
def metN (x y : St) : Int := if metOk x y then laterN x.fn x.fd y.fn y.fd else 0
def metD (x y : St) : Int := if metOk x y then laterD x.fn x.fd y.fn y.fd else 0
def may (fx fy tx ty lx ly mx my : Int) : Bool := Vc.formedB fx fy && Vc.formedB tx ty && formed lx ly mx my
def meetOk (fx fy tx ty lx ly mx my : Int) : Bool := may fx fy tx ty lx ly mx my && metOk (st lx mx fx tx) (st ly my fy ty)
def meetN (fx fy tx ty lx ly mx my : Int) : Int := if may fx fy tx ty lx ly mx my then metN (st lx mx fx tx) (st ly my fy ty) else 0
def meetD (fx fy tx ty lx ly mx my : Int) : Int := if may fx fy tx ty lx ly mx my then metD (st lx mx fx tx) (st ly my fy ty) else 0

/-! ### what the words say -/
theorem formed_iff {lx ly mx my : Int} : formed lx ly mx my = true ↔ ((-134217728 ≤ lx ∧ lx ≤ 134217728) ∧ (-134217728 ≤ ly ∧ ly ≤ 134217728)) ∧ ((-134217728 ≤ mx ∧ mx ≤ 134217728) ∧ (-134217728 ≤ my ∧ my ≤ 134217728)) ∧ lx ≤ mx ∧ ly ≤ my := by
  simp only [formed, Bool.and_eq_true, Vc.formedB_iff, decide_eq_true_eq]; omega
theorem may_iff {fx fy tx ty lx ly mx my : Int} : may fx fy tx ty lx ly mx my = true ↔ ((-134217728 ≤ fx ∧ fx ≤ 134217728) ∧ (-134217728 ≤ fy ∧ fy ≤ 134217728)) ∧ ((-134217728 ≤ tx ∧ tx ≤ 134217728) ∧ (-134217728 ≤ ty ∧ ty ≤ 134217728)) ∧ formed lx ly mx my = true := by
  simp only [may, Bool.and_eq_true, Vc.formedB_iff, and_assoc]
theorem right_iff {n d : Int} : right n d = true ↔ 1 ≤ d ∧ d ≤ 1073741824 ∧ 0 ≤ n ∧ n ≤ 1073741824 := by
  simp only [right, Bool.and_eq_true, decide_eq_true_eq]; omega
theorem has_iff {l m n : Int} : has l m n = true ↔ l ≤ n ∧ n ≤ m := by simp [has]
theorem inB_iff {px py lx ly mx my : Int} : inB px py lx ly mx my = true ↔ formed lx ly mx my = true ∧ (lx ≤ px ∧ px ≤ mx) ∧ (ly ≤ py ∧ py ≤ my) := by
  simp only [inB, Bool.and_eq_true, has_iff, and_assoc]
theorem ahead_of {n d n' d' : Int} (h : right n d = true) (h' : right n' d' = true) : ahead n d n' d' = decide (n * d' < n' * d) := by
  simp [ahead, h, h']
/-- products of times fit -/
theorem mul_fit {a b : Int} (h1 : 0 ≤ a) (h2 : a ≤ 1073741824) (h3 : 0 ≤ b) (h4 : b ≤ 1073741824) : 0 ≤ a * b ∧ a * b ≤ 1152921504606846976 :=
  ⟨Int.mul_nonneg h1 h3, Int.mul_le_mul h2 h4 h3 (by omega)⟩

/-! ### fractions -/
theorem frac_trans {n1 d1 n2 d2 n3 d3 : Int} (p1 : 0 < d1) (p2 : 0 < d2) (p3 : 0 < d3) (h : n1 * d2 ≤ n2 * d1) (h' : n2 * d3 ≤ n3 * d2) : n1 * d3 ≤ n3 * d1 := by
  have a := Int.mul_le_mul_of_nonneg_right h (Int.le_of_lt p3)
  have b := Int.mul_le_mul_of_nonneg_right h' (Int.le_of_lt p1)
  refine Int.le_of_mul_le_mul_right ?_ p2
  grind

/-! ### a stay -/
/-- is a number on its way within two others, at the time n / d? -/
def at1 (l m f t n d : Int) : Prop := l * d ≤ f * d + (t - f) * n ∧ f * d + (t - f) * n ≤ m * d

theorem up_iff {l m f t n d : Int} (hft : f ≤ t) (hd : 1 ≤ d) (h0 : 0 ≤ n) (h1 : n ≤ d) :
    at1 l m f t n d ↔ (up l m f t).ok = true ∧ (up l m f t).fn * d ≤ n * (up l m f t).fd ∧ n * (up l m f t).ld ≤ (up l m f t).ln * d := by
  have p1 : 0 ≤ (t - f) * n := Int.mul_nonneg (by omega) h0
  have p2 : 0 ≤ (t - f) * (d - n) := Int.mul_nonneg (by omega) (by omega)
  unfold at1 up
  constructor
  · rintro ⟨a, b⟩
    have c1 : f ≤ m := by
      refine Int.le_of_mul_le_mul_right (a := d) ?_ (by omega); grind
    have c2 : l ≤ t := by
      refine Int.le_of_mul_le_mul_right (a := d) ?_ (by omega); grind
    rw [if_neg (by omega)]
    refine ⟨rfl, ?_, ?_⟩ <;> dsimp only
    · split <;> grind
    · split <;> grind
  · rintro ⟨a, b, c⟩
    by_cases hh : m < f ∨ t < l
    · rw [if_pos hh] at a; cases a
    · rw [if_neg hh] at b c
      dsimp only at b c
      constructor
      · by_cases g : f < l
        · rw [if_pos g, if_pos g] at b; grind
        · have := Int.mul_le_mul_of_nonneg_right (show l ≤ f by omega) (show 0 ≤ d by omega); grind
      · by_cases g : m < t
        · rw [if_pos g, if_pos g] at c; grind
        · have := Int.mul_le_mul_of_nonneg_right (show t ≤ m by omega) (show 0 ≤ d by omega); grind

theorem at1_turn {l m f t n d : Int} : at1 (-m) (-l) (-f) (-t) n d ↔ at1 l m f t n d := by
  unfold at1; constructor <;> (rintro ⟨a, b⟩; constructor <;> grind)

theorem st_iff {l m f t n d : Int} (hd : 1 ≤ d) (h0 : 0 ≤ n) (h1 : n ≤ d) :
    at1 l m f t n d ↔ (st l m f t).ok = true ∧ (st l m f t).fn * d ≤ n * (st l m f t).fd ∧ n * (st l m f t).ld ≤ (st l m f t).ln * d := by
  unfold st
  split
  · rw [← at1_turn]; exact up_iff (by omega) hd h0 h1
  · exact up_iff (by omega) hd h0 h1

theorem up_fits {l m f t : Int} (hft : f ≤ t) (hok : (up l m f t).ok = true) (hw : t - f ≤ 1073741824) :
    (1 ≤ (up l m f t).fd ∧ (up l m f t).fd ≤ 1073741824 ∧ 0 ≤ (up l m f t).fn ∧ (up l m f t).fn ≤ (up l m f t).fd) ∧ (1 ≤ (up l m f t).ld ∧ (up l m f t).ld ≤ 1073741824 ∧ 0 ≤ (up l m f t).ln ∧ (up l m f t).ln ≤ (up l m f t).ld) := by
  unfold up at hok ⊢
  by_cases hh : m < f ∨ t < l
  · rw [if_pos hh] at hok; cases hok
  · rw [if_neg hh]; dsimp only; repeat' split
    all_goals omega
theorem st_fits {l m f t : Int} (hok : (st l m f t).ok = true) (hw : t - f ≤ 1073741824) (hw' : f - t ≤ 1073741824) :
    (1 ≤ (st l m f t).fd ∧ (st l m f t).fd ≤ 1073741824 ∧ 0 ≤ (st l m f t).fn ∧ (st l m f t).fn ≤ (st l m f t).fd) ∧ (1 ≤ (st l m f t).ld ∧ (st l m f t).ld ≤ 1073741824 ∧ 0 ≤ (st l m f t).ln ∧ (st l m f t).ln ≤ (st l m f t).ld) := by
  unfold st at hok ⊢
  split
  · rw [if_pos (by assumption)] at hok; exact up_fits (by omega) hok (by omega)
  · rw [if_neg (by assumption)] at hok; exact up_fits (by omega) hok (by omega)

/-! ### what is met -/
theorem met_all {l m f t l' m' f' t' : Int} (b1 : t - f ≤ 1073741824) (b2 : f - t ≤ 1073741824) (b3 : t' - f' ≤ 1073741824) (b4 : f' - t' ≤ 1073741824) :
    (metOk (st l m f t) (st l' m' f' t') = true ∧
      (1 ≤ metD (st l m f t) (st l' m' f' t') ∧ metD (st l m f t) (st l' m' f' t') ≤ 1073741824 ∧ 0 ≤ metN (st l m f t) (st l' m' f' t') ∧ metN (st l m f t) (st l' m' f' t') ≤ metD (st l m f t) (st l' m' f' t')) ∧
      at1 l m f t (metN (st l m f t) (st l' m' f' t')) (metD (st l m f t) (st l' m' f' t')) ∧ at1 l' m' f' t' (metN (st l m f t) (st l' m' f' t')) (metD (st l m f t) (st l' m' f' t')) ∧
      ∀ n d : Int, 1 ≤ d → 0 ≤ n → n ≤ d → at1 l m f t n d → at1 l' m' f' t' n d → metN (st l m f t) (st l' m' f' t') * d ≤ n * metD (st l m f t) (st l' m' f' t')) ∨
    (metOk (st l m f t) (st l' m' f' t') = false ∧ metN (st l m f t) (st l' m' f' t') = 0 ∧ metD (st l m f t) (st l' m' f' t') = 0 ∧
      ∀ n d : Int, 1 ≤ d → 0 ≤ n → n ≤ d → at1 l m f t n d → at1 l' m' f' t' n d → False) := by
  have X := @st_iff l m f t
  have Y := @st_iff l' m' f' t'
  have FX := @st_fits l m f t
  have FY := @st_fits l' m' f' t'
  generalize st l m f t = x at *
  generalize st l' m' f' t' = y at *
  cases hx : x.ok with
  | false => right; simp only [metOk, metN, metD, hx]; refine ⟨rfl, rfl, rfl, ?_⟩; intro n d h1 h2 h3 h4 h5; have := ((X h1 h2 h3).1 h4).1; rw [hx] at this; cases this
  | true =>
    cases hy : y.ok with
    | false => right; simp only [metOk, metN, metD, hx, hy]; refine ⟨rfl, rfl, rfl, ?_⟩; intro n d h1 h2 h3 h4 h5; have := ((Y h1 h2 h3).1 h5).1; rw [hy] at this; cases this
    | true =>
      obtain ⟨⟨x1, x2, x3, x4⟩, x5, x6, x7, x8⟩ := FX hx b1 b2
      obtain ⟨⟨y1, y2, y3, y4⟩, y5, y6, y7, y8⟩ := FY hy b3 b4
      have rx : Bx.right x.fn x.fd = true := right_iff.2 (by omega)
      have ry : Bx.right y.fn y.fd = true := right_iff.2 (by omega)
      have rx' : Bx.right x.ln x.ld = true := right_iff.2 (by omega)
      have ry' : Bx.right y.ln y.ld = true := right_iff.2 (by omega)
      -- the later one of both
      have hL : ∃ N D : Int, laterN x.fn x.fd y.fn y.fd = N ∧ laterD x.fn x.fd y.fn y.fd = D ∧ 1 ≤ D ∧ D ≤ 1073741824 ∧ 0 ≤ N ∧ N ≤ D ∧ x.fn * D ≤ N * x.fd ∧ y.fn * D ≤ N * y.fd ∧ ((N = x.fn ∧ D = x.fd) ∨ (N = y.fn ∧ D = y.fd)) := by
        unfold laterN laterD
        rw [ahead_of rx ry]
        by_cases g : x.fn * y.fd < y.fn * x.fd
        · rw [if_pos (by simpa using g), if_pos (by simpa using g)]; exact ⟨_, _, rfl, rfl, y1, y2, y3, y4, by omega, by omega, Or.inr ⟨rfl, rfl⟩⟩
        · rw [if_neg (by simpa using g), if_neg (by simpa using g)]; exact ⟨_, _, rfl, rfl, x1, x2, x3, x4, by omega, by omega, Or.inl ⟨rfl, rfl⟩⟩
      obtain ⟨N, D, eN, eD, d1, d2, d3, d4, d5, d6, d7⟩ := hL
      have rN : Bx.right N D = true := right_iff.2 (by omega)
      simp only [metN, metD, metOk, hx, hy, eN, eD, Bool.true_and, ahead_of rx' rN, ahead_of ry' rN]
      have least : ∀ n d : Int, 1 ≤ d → 0 ≤ n → n ≤ d → at1 l m f t n d → at1 l' m' f' t' n d → N * d ≤ n * D := by
        intro n d h1 h2 h3 h4 h5
        have A := ((X h1 h2 h3).1 h4).2.1
        have B := ((Y h1 h2 h3).1 h5).2.1
        rcases d7 with ⟨rfl, rfl⟩ | ⟨rfl, rfl⟩ <;> assumption
      by_cases g1 : x.ln * D < N * x.ld
      · right
        simp only [g1, decide_true, Bool.not_true, Bool.false_and]
        refine ⟨trivial, rfl, rfl, ?_⟩
        intro n d h1 h2 h3 h4 h5
        have A := ((X h1 h2 h3).1 h4).2.2
        have B := least n d h1 h2 h3 h4 h5
        have := frac_trans (n1 := N) (d1 := D) (n2 := n) (d2 := d) (n3 := x.ln) (d3 := x.ld) (by omega) (by omega) (by omega) B A
        omega
      · by_cases g2 : y.ln * D < N * y.ld
        · right
          simp only [g1, g2, decide_true, decide_false, Bool.not_true, Bool.not_false, Bool.true_and]
          refine ⟨trivial, rfl, rfl, ?_⟩
          intro n d h1 h2 h3 h4 h5
          have A := ((Y h1 h2 h3).1 h5).2.2
          have B := least n d h1 h2 h3 h4 h5
          have := frac_trans (n1 := N) (d1 := D) (n2 := n) (d2 := d) (n3 := y.ln) (d3 := y.ld) (by omega) (by omega) (by omega) B A
          omega
        · left
          simp only [g1, g2, decide_false, Bool.not_false, Bool.true_and, if_true]
          exact ⟨trivial, ⟨d1, d2, d3, d4⟩, (X d1 d3 d4).2 ⟨hx, d5, by omega⟩, (Y d1 d3 d4).2 ⟨hy, d6, by omega⟩, least⟩
end Bx
end Go.Proofs.YtgabgkgokmeaeaaGreat


/- What the small functions of layer 3 answer, as a call: the program's (BxW). Nothing that lay in memory before turns. -/
namespace Go.Proofs.YtgabgkgokmeaeaaGreat
open Go.RowKit
set_option linter.unusedVariables false

theorem bool_eq {a b : Bool} {p : Prop} (h : a = b) (hp : p) : Ending.returned (.bool a) = .returned (.bool b) ∧ p := by rw [h]; exact ⟨rfl, hp⟩

namespace BxW

set_option maxHeartbeats 400000 in
theorem has_any (l m n : Int) (w : World) :
    Calls Tryz.prog 99 #[.agg #[.int .i64 l, .int .i64 m], .int .i64 n] w fun e w' => e = .returned (.bool (Bx.has l m n)) ∧ Below w.heap.size w w' := by
  unfold Bx.has
  by_cases h1 : l ≤ n
  all_goals by_cases h2 : n ≤ m
  all_goals
    go_enter Tryz.func99, Tryz.ntmps99
    go_wp2
    go_ret
    exact bool_eq (by simp [*]) (below_one _ _)

set_option maxHeartbeats 400000 in
theorem laps_any (l m l' m' : Int) (w : World) :
    Calls Tryz.prog 81 #[.agg #[.int .i64 l, .int .i64 m], .agg #[.int .i64 l', .int .i64 m']] w fun e w' => e = .returned (.bool (Bx.laps l m l' m')) ∧ Below w.heap.size w w' := by
  unfold Bx.laps
  by_cases h1 : l < m'
  all_goals by_cases h2 : l' < m
  all_goals
    go_enter Tryz.func81, Tryz.ntmps81
    go_wp2
    go_ret
    exact bool_eq (by simp [*]) (((Below.refl _ _).alloc (Nat.le_refl _) _).alloc (by simp) _)

set_option maxHeartbeats 400000 in
theorem alongX_any (lx ly mx my : Int) (w : World) :
    Calls Tryz.prog 80 #[.agg #[.int .i64 lx, .int .i64 ly, .int .i64 mx, .int .i64 my]] w fun e w' => e = .returned (.agg #[.int .i64 lx, .int .i64 mx]) ∧ Below w.heap.size w w' := by
  go_enter Tryz.func80, Tryz.ntmps80
  go_wp2
  exact bodyPost_ret (v := .agg #[.int .i64 lx, .int .i64 mx]) (by simp [results, Tryz.results80, go_sem]) rfl ⟨rfl, ((Below.refl _ _).alloc (Nat.le_refl _) _).alloc (by simp) _⟩

set_option maxHeartbeats 400000 in
theorem alongY_any (lx ly mx my : Int) (w : World) :
    Calls Tryz.prog 82 #[.agg #[.int .i64 lx, .int .i64 ly, .int .i64 mx, .int .i64 my]] w fun e w' => e = .returned (.agg #[.int .i64 ly, .int .i64 my]) ∧ Below w.heap.size w w' := by
  go_enter Tryz.func82, Tryz.ntmps82
  go_wp2
  exact bodyPost_ret (v := .agg #[.int .i64 ly, .int .i64 my]) (by simp [results, Tryz.results82, go_sem]) rfl ⟨rfl, ((Below.refl _ _).alloc (Nat.le_refl _) _).alloc (by simp) _⟩

set_option maxHeartbeats 400000 in
theorem formed_any (lx ly mx my : Int) (w : World) :
    Calls Tryz.prog 49 #[.agg #[.int .i64 lx, .int .i64 ly, .int .i64 mx, .int .i64 my]] w fun e w' => e = .returned (.bool (Bx.formed lx ly mx my)) ∧ Below w.heap.size w w' := by
  unfold Bx.formed
  cases h1 : Vc.formedB lx ly
  all_goals cases h2 : Vc.formedB mx my
  all_goals by_cases h3 : lx ≤ mx
  all_goals by_cases h4 : ly ≤ my
  all_goals
    go_enter Tryz.func49, Tryz.ntmps49
    go_wp2_with (go_at_call 74; refine (VcW.formed_any _ _ _).mono ?_; rintro e w' ⟨rfl, hb⟩; have hK : Keep w [(w.heap.size, [.int .i64 lx, .int .i64 ly, .int .i64 mx, .int .i64 my])] w' := Keep.on (by first | assumption | exact ⟨by simp [Lie, LieAt, go_sem], by simp, below_one _ _⟩) hb; have hS := hK; simp only [Keep, Lie, LieAt, Nat.reduceAdd] at hS)
    go_ret
    exact bool_eq (by simp [*]) hK.2.2

end BxW
end Go.Proofs.YtgabgkgokmeaeaaGreat

/- What the functions of layer 3 answer, as a call: the program's (BxW). Nothing that lay in memory before turns. -/
namespace Go.Proofs.YtgabgkgokmeaeaaGreat
open Go.RowKit
set_option linter.unusedVariables false

theorem and3 (a b c : Bool) : a = false ∨ (a = true ∧ b = false) ∨ (a = true ∧ b = true ∧ c = false) ∨ (a = true ∧ b = true ∧ c = true) := by
  cases a <;> cases b <;> cases c <;> simp
theorem and4 (a b c d : Bool) : a = false ∨ (a = true ∧ b = false) ∨ (a = true ∧ b = true ∧ c = false) ∨ (a = true ∧ b = true ∧ c = true ∧ d = false) ∨ (a = true ∧ b = true ∧ c = true ∧ d = true) := by
  cases a <;> cases b <;> cases c <;> cases d <;> simp

namespace BxW

set_option maxHeartbeats 4000000 in
theorem in_any (px py lx ly mx my : Int) (w : World) :
    Calls Tryz.prog 76 #[.agg #[.int .i64 px, .int .i64 py], .agg #[.int .i64 lx, .int .i64 ly, .int .i64 mx, .int .i64 my]] w fun e w' => e = .returned (.bool (Bx.inB px py lx ly mx my)) ∧ Below w.heap.size w w' := by
  unfold Bx.inB
  have F := formed_any lx ly mx my
  have HX := has_any lx mx px
  have HY := has_any ly my py
  rcases and3 (Bx.formed lx ly mx my) (Bx.has lx mx px) (Bx.has ly my py) with h1 | ⟨h1, h2⟩ | ⟨h1, h2, h3⟩ | ⟨h1, h2, h3⟩
  all_goals
    first | simp only [h1] at F | skip
    first | simp only [h2] at HX | skip
    first | simp only [h3] at HY | skip
    go_enter Tryz.func76, Tryz.ntmps76
    go_wp2_with fail
    generalize hW : (w.alloc (.cells #[.int .i64 px, .int .i64 py] 49)).alloc (.cells #[.int .i64 lx, .int .i64 ly, .int .i64 mx, .int .i64 my] 66) = W
    have hK : Keep w [(w.heap.size, [.int .i64 px, .int .i64 py]), (w.heap.size + 1, [.int .i64 lx, .int .i64 ly, .int .i64 mx, .int .i64 my])] W := by subst hW; exact ⟨by simp [Lie, LieAt, go_sem, World.cell?_alloc_past, World.frozen?_alloc_past], by simp; omega, ((Below.refl _ _).alloc (Nat.le_refl _) _).alloc (by simp) _⟩
    have hS := hK
    simp only [Keep, Lie, LieAt, Nat.reduceAdd] at hS
    obtain ⟨⟨⟨c0, f0, c1, f1, l0⟩, ⟨c2, f2, c3, f3, c4, f4, c5, f5, l1⟩, -⟩, -⟩ := hS
    have ne : Nonempty (KeptW W) := KeptW.one W
    have d0 := KeptW.at l0 c0
    have d1 := KeptW.at l0 c1
    have d2 := KeptW.at l1 c2
    have d3 := KeptW.at l1 c3
    have d4 := KeptW.at l1 c4
    have d5 := KeptW.at l1 c5
    clear hW
    refine wp_region_kept (by kernel_rfl) (by kernel_rfl) ?_
    repeat (go_big_quiet_step (first | (go_at_call 49; exact kept_call (F _)) | (go_at_call 80; exact kept_call (alongX_any _ _ _ _ _)) | (go_at_call 82; exact kept_call (alongY_any _ _ _ _ _)) | (go_at_call_of 99 (Value.agg #[Value.int IntKind.i64 lx, Value.int IntKind.i64 mx]); exact kept_call (HX _)) | (go_at_call_of 99 (Value.agg #[Value.int IntKind.i64 ly, Value.int IntKind.i64 my]); exact kept_call (HY _))))
    refine wpQuiet_nil ?_
    rintro _ ⟨x, rfl⟩
    go_wp2
    go_ret
    exact bool_eq (by simp [*]) (hK.2.2.trans (x.h.mono hK.2.1))

set_option maxHeartbeats 4000000 in
theorem overlap_any (lx ly mx my lx' ly' mx' my' : Int) (w : World) :
    Calls Tryz.prog 53 #[.agg #[.int .i64 lx, .int .i64 ly, .int .i64 mx, .int .i64 my], .agg #[.int .i64 lx', .int .i64 ly', .int .i64 mx', .int .i64 my']] w fun e w' => e = .returned (.bool (Bx.overlap lx ly mx my lx' ly' mx' my')) ∧ Below w.heap.size w w' := by
  unfold Bx.overlap
  have F := formed_any lx ly mx my
  have G := formed_any lx' ly' mx' my'
  have HX := laps_any lx mx lx' mx'
  have HY := laps_any ly my ly' my'
  rcases and4 (Bx.formed lx ly mx my) (Bx.formed lx' ly' mx' my') (Bx.laps lx mx lx' mx') (Bx.laps ly my ly' my') with h1 | ⟨h1, h2⟩ | ⟨h1, h2, h3⟩ | ⟨h1, h2, h3, h4⟩ | ⟨h1, h2, h3, h4⟩
  all_goals
    first | simp only [h1] at F | skip
    first | simp only [h2] at G | skip
    first | simp only [h3] at HX | skip
    first | simp only [h4] at HY | skip
    go_enter Tryz.func53, Tryz.ntmps53
    go_wp2_with fail
    generalize hW : (w.alloc (.cells #[.int .i64 lx, .int .i64 ly, .int .i64 mx, .int .i64 my] 66)).alloc (.cells #[.int .i64 lx', .int .i64 ly', .int .i64 mx', .int .i64 my'] 66) = W
    have hK : Keep w [(w.heap.size, [.int .i64 lx, .int .i64 ly, .int .i64 mx, .int .i64 my]), (w.heap.size + 1, [.int .i64 lx', .int .i64 ly', .int .i64 mx', .int .i64 my'])] W := by subst hW; exact ⟨by simp [Lie, LieAt, go_sem, World.cell?_alloc_past, World.frozen?_alloc_past], by simp; omega, ((Below.refl _ _).alloc (Nat.le_refl _) _).alloc (by simp) _⟩
    have hS := hK
    simp only [Keep, Lie, LieAt, Nat.reduceAdd] at hS
    obtain ⟨⟨⟨c0, f0, c1, f1, c2, f2, c3, f3, l0⟩, ⟨c4, f4, c5, f5, c6, f6, c7, f7, l1⟩, -⟩, -⟩ := hS
    have ne : Nonempty (KeptW W) := KeptW.one W
    have d0 := KeptW.at l0 c0
    have d1 := KeptW.at l0 c1
    have d2 := KeptW.at l0 c2
    have d3 := KeptW.at l0 c3
    have d4 := KeptW.at l1 c4
    have d5 := KeptW.at l1 c5
    have d6 := KeptW.at l1 c6
    have d7 := KeptW.at l1 c7
    clear hW
    refine wp_region_kept (by kernel_rfl) (by kernel_rfl) ?_
    repeat (go_big_quiet_step (first | (go_at_call_of 49 (Value.agg #[Value.int IntKind.i64 lx, Value.int IntKind.i64 ly, Value.int IntKind.i64 mx, Value.int IntKind.i64 my]); exact kept_call (F _)) | (go_at_call 49; exact kept_call (G _)) | (go_at_call 80; exact kept_call (alongX_any _ _ _ _ _)) | (go_at_call 82; exact kept_call (alongY_any _ _ _ _ _)) | (go_at_call_of 81 (Value.agg #[Value.int IntKind.i64 lx, Value.int IntKind.i64 mx]); exact kept_call (HX _)) | (go_at_call 81; exact kept_call (HY _))))
    refine wpQuiet_nil ?_
    rintro _ ⟨x, rfl⟩
    go_wp2
    go_ret
    exact bool_eq (by simp [*]) (hK.2.2.trans (x.h.mono hK.2.1))

end BxW
end Go.Proofs.YtgabgkgokmeaeaaGreat


/- The reference's way to say layer 3, in plain functions, and that it says the same. -/
namespace Go.Proofs.YtgabgkgokmeaeaaGreat
set_option linter.unusedVariables false

theorem and6 (a b c d e f : Bool) : a = false ∨ (a = true ∧ b = false) ∨ (a = true ∧ b = true ∧ c = false) ∨ (a = true ∧ b = true ∧ c = true ∧ d = false) ∨ (a = true ∧ b = true ∧ c = true ∧ d = true ∧ e = false) ∨ (a = true ∧ b = true ∧ c = true ∧ d = true ∧ e = true ∧ f = false) ∨ (a = true ∧ b = true ∧ c = true ∧ d = true ∧ e = true ∧ f = true) := by
  cases a <;> cases b <;> cases c <;> cases d <;> cases e <;> cases f <;> simp

namespace Bx
def inR (px py lx ly mx my : Int) : Bool := Vc.formedB px py && formed lx ly mx my && decide (lx ≤ px) && decide (px ≤ mx) && decide (ly ≤ py) && decide (py ≤ my)
theorem inR_eq (px py lx ly mx my : Int) : inR px py lx ly mx my = inB px py lx ly mx my := by
  rw [Bool.eq_iff_iff, inB_iff]
  simp only [inR, Bool.and_eq_true, decide_eq_true_eq, Vc.formedB_iff, formed_iff]
  omega
def overlapR (lx ly mx my lx' ly' mx' my' : Int) : Bool := formed lx ly mx my && formed lx' ly' mx' my' && decide (lx' < mx) && decide (lx < mx') && decide (ly' < my) && decide (ly < my')
theorem overlapR_eq (lx ly mx my lx' ly' mx' my' : Int) : overlapR lx ly mx my lx' ly' mx' my' = overlap lx ly mx my lx' ly' mx' my' := by
  rw [Bool.eq_iff_iff]
  simp only [overlapR, overlap, laps, Bool.and_eq_true, decide_eq_true_eq]
  constructor <;> (intro h; simp [h])

def atB (l m f t n d : Int) : Bool := decide (l * d ≤ f * d + (t - f) * n) && decide (f * d + (t - f) * n ≤ m * d)
theorem atB_iff {l m f t n d : Int} : atB l m f t n d = true ↔ at1 l m f t n d := by simp [atB, at1]
theorem mul_bd {a b : Int} (h1 : -268435456 ≤ a) (h2 : a ≤ 268435456) (h3 : 0 ≤ b) (h4 : b ≤ 1073741824) : -288230376151711744 ≤ a * b ∧ a * b ≤ 288230376151711744 := by
  have x1 : 0 ≤ (268435456 - a) * b := Int.mul_nonneg (by omega) h3
  have x2 : 0 ≤ (268435456 + a) * b := Int.mul_nonneg (by omega) h3
  rw [Int.sub_mul] at x1; rw [Int.add_mul] at x2
  constructor <;> omega

/-- when a number, on its way, comes to the nearer one of two -/
structure Cm where
  ok : Bool
  n : Int
  d : Int
def comes (f t l m : Int) : Cm :=
  if f < l ∧ l ≤ t then ⟨true, l - f, t - f⟩ else if m < f ∧ t ≤ m then ⟨true, f - m, f - t⟩ else ⟨false, 0, 0⟩
theorem comes_fits {f t l m : Int} (h : l ≤ m) (hw : t - f ≤ 1073741824) (hw' : f - t ≤ 1073741824) :
    (0 ≤ (comes f t l m).n ∧ (comes f t l m).n ≤ 1073741824) ∧ (0 ≤ (comes f t l m).d ∧ (comes f t l m).d ≤ 1073741824) := by
  unfold comes; split
  · dsimp only; omega
  · split <;> (dsimp only; omega)
/-- where it comes, that is the stay's first time -/
theorem comes_st {f t l m : Int} (h : l ≤ m) (hc : (comes f t l m).ok = true) : (st l m f t).ok = true ∧ (st l m f t).fn = (comes f t l m).n ∧ (st l m f t).fd = (comes f t l m).d ∧ 1 ≤ (comes f t l m).n ∧ 1 ≤ (comes f t l m).d := by
  unfold comes at hc ⊢
  by_cases h1 : f < l ∧ l ≤ t
  · rw [if_pos h1]; unfold st up
    rw [if_neg (by omega), if_neg (by omega)]; dsimp only; rw [if_pos (by omega), if_pos (by omega)]
    refine ⟨rfl, rfl, rfl, ?_, ?_⟩ <;> omega
  · rw [if_neg h1] at hc ⊢
    by_cases h2 : m < f ∧ t ≤ m
    · rw [if_pos h2]; unfold st up
      rw [if_pos (by omega), if_neg (by omega)]; dsimp only; rw [if_pos (by omega), if_pos (by omega)]
      refine ⟨rfl, ?_, ?_, ?_, ?_⟩ <;> omega
    · rw [if_neg h2] at hc; cases hc
/-- where it is there at once, the first time is 0 / 1 -/
theorem comes_not {f t l m : Int} (h : l ≤ m) (hc : (comes f t l m).ok = false) (hs : (st l m f t).ok = true) : (st l m f t).fn = 0 ∧ (st l m f t).fd = 1 ∧ l ≤ f ∧ f ≤ m := by
  unfold comes at hc
  by_cases h1 : f < l ∧ l ≤ t
  · rw [if_pos h1] at hc; cases hc
  · rw [if_neg h1] at hc
    by_cases h2 : m < f ∧ t ≤ m
    · rw [if_pos h2] at hc; cases hc
    · unfold st up at hs ⊢
      by_cases g : t < f
      · rw [if_pos g] at hs ⊢
        by_cases g' : -l < -f ∨ -t < -m
        · rw [if_pos g'] at hs; cases hs
        · rw [if_neg g']; dsimp only; rw [if_neg (by omega), if_neg (by omega)]; refine ⟨rfl, rfl, ?_, ?_⟩ <;> omega
      · rw [if_neg g] at hs ⊢
        by_cases g' : m < f ∨ t < l
        · rw [if_pos g'] at hs; cases hs
        · rw [if_neg g']; dsimp only; rw [if_neg (by omega), if_neg (by omega)]; refine ⟨rfl, rfl, ?_, ?_⟩ <;> omega
/-- at once there: the stay begins at 0 / 1 -/
theorem st_in {f t l m : Int} (h1 : l ≤ f) (h2 : f ≤ m) : (st l m f t).ok = true ∧ (st l m f t).fn = 0 ∧ (st l m f t).fd = 1 := by
  unfold st up
  split
  · rw [if_neg (by omega)]; dsimp only; rw [if_neg (by omega), if_neg (by omega)]; exact ⟨rfl, rfl, rfl⟩
  · rw [if_neg (by omega)]; dsimp only; rw [if_neg (by omega), if_neg (by omega)]; exact ⟨rfl, rfl, rfl⟩
end Bx
end Go.Proofs.YtgabgkgokmeaeaaGreat


/- What the functions of the reference of layer 3 answer, as a call (BxR), and Around's contract of the program. Nothing that lay in memory before turns. -/
namespace Go.Proofs.YtgabgkgokmeaeaaGreat
open Go.RowKit
set_option linter.unusedVariables false

namespace BxR

end BxR
end Go.Proofs.YtgabgkgokmeaeaaGreat


/- Whether a map can be read, which tiles are walls, what is free: the reference's (TiR). -/
namespace Go.Proofs.YtgabgkgokmeaeaaGreat
open Go.RowKit
set_option linter.unusedVariables false
set_option linter.unusedSimpArgs false

namespace Ti
/-- whether a box is free -/
abbrev decW (m : M) (b : Bx) : Decidable (Within m b) := by unfold Within; exact inferInstance
abbrev decO (x y : Nat) (b : Bx) : Decidable (Over x y b) := by unfold Over; exact inferInstance
def freeB (m : M) (b : Bx) : Bool := formedB m && @decide (Within m b) (decW m b) && (List.range m.W.toNat).all fun x => (List.range m.H.toNat).all fun y => !(wall m x y && @decide (Over x y b) (decO x y b))
theorem free_is (m : M) (b : Bx) : freeB m b = true ↔ Free m b := by
  unfold freeB
  rw [Bool.and_eq_true, Bool.and_eq_true, formedB_iff, @decide_eq_true_iff (Within m b) (decW m b), List.all_eq_true]
  constructor
  · rintro ⟨⟨h1, h2⟩, h3⟩
    refine ⟨h1, h2, fun x y hx hy hw ho => ?_⟩
    have h4 := List.all_eq_true.1 (h3 x (List.mem_range.2 hx)) y (List.mem_range.2 hy)
    rw [hw, @decide_eq_true (Over x y b) (decO x y b) ho] at h4
    cases h4
  · rintro ⟨h1, h2, h3⟩
    refine ⟨⟨h1, h2⟩, fun x hx => List.all_eq_true.2 fun y hy => ?_⟩
    cases hw : wall m x y with
    | false => rfl
    | true => rw [@decide_eq_false (Over x y b) (decO x y b) (h3 x y (List.mem_range.1 hx) (List.mem_range.1 hy) hw)]; rfl
theorem ansF_eq (m : M) : (ansF m == 0) = formedB m := by
  by_cases h : Formed m
  · rw [ansF_pos h, formedB_iff.2 h]; rfl
  · rw [ansF_neg h, formedB_not h]; rfl
end Ti

namespace TiR

theorem below_turned {w w' : World} (h : Below w.heap.size w w') : Turned [] w w' := Turned.ofBelow h
theorem tile_formed {x y : Nat} (hx : x < 32) (hy : y < 32) : Bx.formed ((x : Int) * 65536) ((y : Int) * 65536) ((x : Int) * 65536 + 65536) ((y : Int) * 65536 + 65536) = true := by
  unfold Bx.formed Vc.formedB Vc.inL
  simp
  omega
theorem within_formed {m : Ti.M} {b : Ti.Bx} (hD : Ti.Dims m) (h : Ti.Within m b) : Bx.formed b.lx b.ly b.mx b.my = true := by
  obtain ⟨h1, h2, h3, h4, _⟩ := hD
  obtain ⟨w1, w2, w3, w4, w5, w6⟩ := h
  unfold Bx.formed Vc.formedB Vc.inL
  simp
  omega
theorem over_iff {x y : Nat} {b : Ti.Bx} (hx : x < 32) (hy : y < 32) (hb : Bx.formed b.lx b.ly b.mx b.my = true) : Bx.overlap ((x : Int) * 65536) ((y : Int) * 65536) ((x : Int) * 65536 + 65536) ((y : Int) * 65536 + 65536) b.lx b.ly b.mx b.my = true ↔ Ti.Over x y b := by
  unfold Bx.overlap Ti.Over Bx.laps
  rw [tile_formed hx hy, hb]
  simp
  omega

/-- what the one long test of Free asks, one by one -/
theorem free_cases (m : Ti.M) (b : Ti.Bx) : Bx.formed b.lx b.ly b.mx b.my = false ∨ (Bx.formed b.lx b.ly b.mx b.my = true ∧ ¬ Ti.Formed m) ∨ (Bx.formed b.lx b.ly b.mx b.my = true ∧ Ti.Formed m ∧ b.lx < 0) ∨ (Bx.formed b.lx b.ly b.mx b.my = true ∧ Ti.Formed m ∧ ¬ b.lx < 0 ∧ b.ly < 0) ∨ (Bx.formed b.lx b.ly b.mx b.my = true ∧ Ti.Formed m ∧ ¬ b.lx < 0 ∧ ¬ b.ly < 0 ∧ m.W * 65536 < b.mx) ∨ (Bx.formed b.lx b.ly b.mx b.my = true ∧ Ti.Formed m ∧ ¬ b.lx < 0 ∧ ¬ b.ly < 0 ∧ ¬ m.W * 65536 < b.mx ∧ m.H * 65536 < b.my) ∨ (Bx.formed b.lx b.ly b.mx b.my = true ∧ Ti.Formed m ∧ ¬ b.lx < 0 ∧ ¬ b.ly < 0 ∧ ¬ m.W * 65536 < b.mx ∧ ¬ m.H * 65536 < b.my) := by
  cases h0 : Bx.formed b.lx b.ly b.mx b.my with
  | false => exact .inl rfl
  | true =>
    by_cases h1 : Ti.Formed m
    · by_cases h2 : b.lx < 0
      · exact .inr (.inr (.inl ⟨rfl, h1, h2⟩))
      · by_cases h3 : b.ly < 0
        · exact .inr (.inr (.inr (.inl ⟨rfl, h1, h2, h3⟩)))
        · by_cases h4 : m.W * 65536 < b.mx
          · exact .inr (.inr (.inr (.inr (.inl ⟨rfl, h1, h2, h3, h4⟩))))
          · by_cases h5 : m.H * 65536 < b.my
            · exact .inr (.inr (.inr (.inr (.inr (.inl ⟨rfl, h1, h2, h3, h4, h5⟩)))))
            · exact .inr (.inr (.inr (.inr (.inr (.inr ⟨rfl, h1, h2, h3, h4, h5⟩)))))
    · exact .inr (.inl ⟨rfl, h1⟩)
theorem not_free {m : Ti.M} {b : Ti.Bx} (h : ¬ Ti.Free m b) : Ti.freeB m b = false := by
  cases hf : Ti.freeB m b with
  | false => rfl
  | true => exact absurd ((Ti.free_is m b).1 hf) h
theorem is_free {m : Ti.M} {b : Ti.Bx} (h : Ti.Free m b) : Ti.freeB m b = true := (Ti.free_is m b).2 h

end TiR
end Go.Proofs.YtgabgkgokmeaeaaGreat

/- Bits as lists of bools: numbers of n bits, small numbers, bytes; plain functions, and their laws. -/
namespace Go.Proofs.YtgabgkgokmeaeaaGreat.Bt
set_option linter.unusedVariables false

/-- the lowest n bits of x, the lowest one first -/
def bits : Nat → Nat → List Bool
  | _, 0 => []
  | x, n + 1 => (x % 2 == 1) :: bits (x / 2) n
/-- what bits tell, the lowest one first -/
def val : List Bool → Nat
  | [] => 0
  | b :: l => b.toNat + 2 * val l
theorem bits_length : ∀ (n x : Nat), (bits x n).length = n
  | 0, _ => rfl
  | n + 1, x => by show (bits (x / 2) n).length + 1 = n + 1; rw [bits_length n]
theorem val_lt : ∀ l : List Bool, val l < 2 ^ l.length
  | [] => by decide
  | b :: l => by
    have := val_lt l
    have hb : b.toNat < 2 := by cases b <;> decide
    show b.toNat + 2 * val l < 2 ^ (l.length + 1)
    rw [Nat.pow_succ]; omega
theorem val_bits : ∀ (n x : Nat), val (bits x n) = x % 2 ^ n
  | 0, x => by show 0 = x % 1; omega
  | n + 1, x => by
    show (x % 2 == 1).toNat + 2 * val (bits (x / 2) n) = _
    rw [val_bits n, Nat.pow_succ, Nat.mul_comm (2 ^ n) 2, Nat.mod_mul]
    have : x % 2 < 2 := Nat.mod_lt _ (by omega)
    by_cases h : x % 2 = 1
    · simp [h]
    · have h0 : x % 2 = 0 := by omega
      simp [h0]
theorem bits_val : ∀ l : List Bool, bits (val l) l.length = l
  | [] => rfl
  | b :: l => by
    have hb : b.toNat < 2 := by cases b <;> decide
    show ((b.toNat + 2 * val l) % 2 == 1) :: bits ((b.toNat + 2 * val l) / 2) l.length = b :: l
    rw [show (b.toNat + 2 * val l) / 2 = val l by omega, bits_val l, show (b.toNat + 2 * val l) % 2 = b.toNat by omega]
    cases b <;> rfl
theorem bits_mod : ∀ (n m x : Nat), n ≤ m → bits (x % 2 ^ m) n = bits x n
  | 0, _, _, _ => rfl
  | n + 1, 0, _, h => by omega
  | n + 1, m + 1, x, h => by
    show ((x % 2 ^ (m + 1)) % 2 == 1) :: bits (x % 2 ^ (m + 1) / 2) n = (x % 2 == 1) :: bits (x / 2) n
    have e1 : x % 2 ^ (m + 1) % 2 = x % 2 := by rw [Nat.pow_succ, Nat.mul_comm]; exact Nat.mod_mul_right_mod _ _ _
    have e2 : x % 2 ^ (m + 1) / 2 = x / 2 % 2 ^ m := by rw [Nat.pow_succ, Nat.mul_comm, Nat.mod_mul_right_div_self]
    rw [e1, e2, bits_mod n m _ (by omega)]
theorem bits_add : ∀ (n m x : Nat), bits x (n + m) = bits x n ++ bits (x / 2 ^ n) m
  | 0, m, x => by rw [Nat.zero_add, Nat.pow_zero, Nat.div_one]; rfl
  | n + 1, m, x => by
    rw [Nat.add_right_comm]
    show (x % 2 == 1) :: bits (x / 2) (n + m) = ((x % 2 == 1) :: bits (x / 2) n) ++ bits (x / 2 ^ (n + 1)) m
    rw [bits_add n m, Nat.div_div_eq_div_mul, Nat.pow_succ, Nat.mul_comm 2]
    rfl
theorem bits_snoc (n x : Nat) : bits x (n + 1) = bits x n ++ [x / 2 ^ n % 2 == 1] := by rw [bits_add n 1]; rfl
theorem bits_inj {n x y : Nat} (hx : x < 2 ^ n) (hy : y < 2 ^ n) (h : bits x n = bits y n) : x = y := by
  have := congrArg val h
  rwa [val_bits, val_bits, Nat.mod_eq_of_lt hx, Nat.mod_eq_of_lt hy] at this
theorem bits_zero : ∀ n, bits 0 n = List.replicate n false
  | 0 => rfl
  | n + 1 => by show (0 % 2 == 1) :: bits (0 / 2) n = _; rw [Nat.zero_div, bits_zero n]; rfl
theorem val_append : ∀ l r : List Bool, val (l ++ r) = val l + 2 ^ l.length * val r
  | [], r => by show val r = 0 + 2 ^ 0 * val r; omega
  | b :: l, r => by
    show b.toNat + 2 * val (l ++ r) = (b.toNat + 2 * val l) + 2 ^ (l.length + 1) * val r
    rw [val_append l r, Nat.pow_succ, Nat.mul_comm (2 ^ l.length) 2, Nat.mul_assoc]; omega
theorem val_snoc (l : List Bool) (b : Bool) : val (l ++ [b]) = val l + 2 ^ l.length * b.toNat := by
  rw [val_append]; show _ + _ * (b.toNat + 2 * 0) = _; rw [Nat.mul_zero, Nat.add_zero]
theorem val_zeros (n : Nat) : val (List.replicate n false) = 0 := by rw [← bits_zero, val_bits]; exact Nat.zero_mod _
theorem val_eq_zero : ∀ {l : List Bool}, val l = 0 → l = List.replicate l.length false
  | [], _ => rfl
  | b :: l, h => by
    have hb : b.toNat + 2 * val l = 0 := h
    have h0 : val l = 0 := by omega
    have : b = false := by cases b; rfl; simp at hb
    subst this
    show false :: l = false :: List.replicate l.length false
    rw [← val_eq_zero h0]
theorem val_inj {l r : List Bool} (hl : l.length = r.length) (h : val l = val r) : l = r := by
  have := bits_val l
  rw [h, hl, bits_val] at this
  exact this.symm

/-- a number with its sign, as one without -/
def zig (x : Int) : Nat := if x < 0 then (-(x + 1)).toNat * 2 + 1 else x.toNat * 2
def zag (u : Nat) : Int := if u % 2 = 1 then -((u / 2 : Nat) : Int) - 1 else ((u / 2 : Nat) : Int)
theorem zag_zig (x : Int) : zag (zig x) = x := by
  unfold zig zag
  by_cases h : x < 0
  · rw [if_pos h, if_pos (by omega)]; omega
  · rw [if_neg h, if_neg (by omega)]; omega
theorem zig_zag (u : Nat) : zig (zag u) = u := by
  unfold zig zag
  by_cases h : u % 2 = 1
  · rw [if_pos h, if_pos (by omega)]; omega
  · rw [if_neg h, if_neg (by omega)]; omega
theorem zig_lt {x : Int} (h1 : -9223372036854775808 ≤ x) (h2 : x < 9223372036854775808) : zig x < 18446744073709551616 := by
  unfold zig; split <;> omega
theorem zag_lo {u : Nat} (h : u < 18446744073709551616) : -9223372036854775808 ≤ zag u := by unfold zag; split <;> omega
theorem zag_hi {u : Nat} (h : u < 18446744073709551616) : zag u < 9223372036854775808 := by unfold zag; split <;> omega
theorem zig_inj {x y : Int} (h : zig x = zig y) : x = y := by rw [← zag_zig x, h, zag_zig]

/-- a small number's bits, k steps at most -/
def smF : Nat → Nat → List Bool
  | 0, u => false :: bits u 7
  | k + 1, u => if 127 < u then (true :: bits (u % 128) 7) ++ smF k (u / 128) else false :: bits u 7
theorem smF_succ (k u : Nat) : smF (k + 1) u = if 127 < u then (true :: bits (u % 128) 7) ++ smF k (u / 128) else false :: bits u 7 := rfl
theorem smF_eq : ∀ {k j u : Nat}, u ≤ k → u ≤ j → smF k u = smF j u
  | 0, 0, _, _, _ => rfl
  | 0, j + 1, u, h, _ => by rw [smF_succ, if_neg (by omega)]; rfl
  | k + 1, 0, u, _, h => by rw [smF_succ, if_neg (by omega)]; rfl
  | k + 1, j + 1, u, h, h' => by
    rw [smF_succ, smF_succ]
    by_cases hu : 127 < u
    · rw [if_pos hu, if_pos hu, smF_eq (k := k) (j := j) (by omega) (by omega)]
    · rw [if_neg hu, if_neg hu]
/-- a small number's bits -/
def sm (u : Nat) : List Bool := smF u u
theorem sm_more {u : Nat} (h : 127 < u) : sm u = (true :: bits (u % 128) 7) ++ sm (u / 128) := by
  unfold sm
  obtain ⟨v, rfl⟩ : ∃ v, u = v + 1 := ⟨u - 1, by omega⟩
  rw [smF_succ, if_pos h, smF_eq (k := v) (j := (v + 1) / 128) (by omega) (Nat.le_refl _)]
theorem sm_last {u : Nat} (h : ¬ 127 < u) : sm u = false :: bits u 7 := by
  unfold sm
  cases u with
  | zero => rfl
  | succ v => rw [smF_succ, if_neg h]
/-- how many times eight bits, k steps at most -/
def eightsF : Nat → Nat → Nat
  | 0, _ => 1
  | k + 1, u => if 127 < u then eightsF k (u / 128) + 1 else 1
theorem eightsF_succ (k u : Nat) : eightsF (k + 1) u = if 127 < u then eightsF k (u / 128) + 1 else 1 := rfl
theorem eightsF_eq : ∀ {k j u : Nat}, u ≤ k → u ≤ j → eightsF k u = eightsF j u
  | 0, 0, _, _, _ => rfl
  | 0, j + 1, u, h, _ => by rw [eightsF_succ, if_neg (by omega)]; rfl
  | k + 1, 0, u, _, h => by rw [eightsF_succ, if_neg (by omega)]; rfl
  | k + 1, j + 1, u, h, h' => by
    rw [eightsF_succ, eightsF_succ]
    by_cases hu : 127 < u
    · rw [if_pos hu, if_pos hu, eightsF_eq (k := k) (j := j) (by omega) (by omega)]
    · rw [if_neg hu, if_neg hu]
/-- how many times eight bits -/
def eights (u : Nat) : Nat := eightsF u u
theorem eights_more {u : Nat} (h : 127 < u) : eights u = eights (u / 128) + 1 := by
  unfold eights
  obtain ⟨v, rfl⟩ : ∃ v, u = v + 1 := ⟨u - 1, by omega⟩
  rw [eightsF_succ, if_pos h, eightsF_eq (k := v) (j := (v + 1) / 128) (by omega) (Nat.le_refl _)]
theorem eights_last {u : Nat} (h : ¬ 127 < u) : eights u = 1 := by
  unfold eights
  cases u with
  | zero => rfl
  | succ v => rw [eightsF_succ, if_neg h]
theorem eights_pos (u : Nat) : 1 ≤ eights u := by
  by_cases h : 127 < u
  · rw [eights_more h]; omega
  · rw [eights_last h]; omega
theorem sm_length (u : Nat) : (sm u).length = 8 * eights u := by
  induction u using Nat.strongRecOn with
  | ind u ih =>
    by_cases h : 127 < u
    · rw [sm_more h, eights_more h, List.length_append, ih (u / 128) (by omega)]
      simp [bits_length]; omega
    · rw [sm_last h, eights_last h]; simp [bits_length]
/-- in n times eight bits goes what is below 128 to the n -/
theorem eights_le : ∀ {n u : Nat}, 1 ≤ n → (eights u ≤ n ↔ u < 128 ^ n)
  | 0, _, h => by omega
  | 1, u, _ => by
    by_cases h : 127 < u
    · rw [eights_more h]
      have := eights_pos (u / 128)
      omega
    · rw [eights_last h]; omega
  | n + 2, u, _ => by
    have hp : 128 ^ (n + 2) = 128 ^ (n + 1) * 128 := Nat.pow_succ ..
    have h1 : 1 ≤ 128 ^ (n + 1) := Nat.pos_of_ne_zero (by simp)
    by_cases h : 127 < u
    · rw [eights_more h, Nat.add_le_add_iff_right, eights_le (n := n + 1) (by omega), hp]
      rw [Nat.div_lt_iff_lt_mul (by omega)]
    · rw [eights_last h, hp]; omega
theorem eights_ten {u : Nat} (h : u < 18446744073709551616) : eights u ≤ 10 := by
  rw [eights_le (by omega)]
  exact Nat.lt_of_lt_of_le h (by decide)
theorem eights_mono {u v : Nat} (h : u ≤ v) : eights u ≤ eights v := by
  have hv := (eights_le (u := v) (eights_pos v)).1 (Nat.le_refl _)
  exact (eights_le (eights_pos v)).2 (Nat.lt_of_le_of_lt h hv)
/-- small numbers begin none other -/
theorem sm_prefix {u v : Nat} {r s : List Bool} (h : sm u ++ r = sm v ++ s) : u = v ∧ r = s := by
  induction u using Nat.strongRecOn generalizing v with
  | ind u ih =>
    by_cases hu : 127 < u <;> by_cases hv : 127 < v
    · rw [sm_more hu, sm_more hv] at h
      simp only [List.cons_append, List.append_assoc, List.cons.injEq, true_and] at h
      obtain ⟨h1, h2⟩ := List.append_inj h (by rw [bits_length, bits_length])
      obtain ⟨h3, h4⟩ := ih (u / 128) (by omega) h2
      have := bits_inj (n := 7) (by omega) (by omega) h1
      exact ⟨by omega, h4⟩
    · rw [sm_more hu, sm_last hv] at h; simp at h
    · rw [sm_last hu, sm_more hv] at h; simp at h
    · rw [sm_last hu, sm_last hv] at h
      simp only [List.cons_append, List.cons.injEq, true_and] at h
      obtain ⟨h1, h2⟩ := List.append_inj h (by rw [bits_length, bits_length])
      exact ⟨bits_inj (n := 7) (by omega) (by omega) h1, h2⟩

/-- up to k times eight bits, as they come: what they tell, and how many times eight they are -/
def grp : Nat → List Bool → Option (Nat × Nat)
  | 0, _ => none
  | k + 1, l =>
    match l with
    | [] => none
    | m :: r =>
      if r.length < 7 then none
      else if m then
        match grp k (r.drop 7) with
        | none => none
        | some (u, c) => some (val (r.take 7) + 128 * u, c + 1)
      else some (val (r.take 7), 1)
theorem grp_true (k : Nat) {r : List Bool} (h : ¬ r.length < 7) : grp (k + 1) (true :: r) = (match grp k (r.drop 7) with | none => none | some (u, c) => some (val (r.take 7) + 128 * u, c + 1)) := by
  show (if r.length < 7 then none else if true = true then (match grp k (r.drop 7) with | none => none | some (u, c) => some (val (r.take 7) + 128 * u, c + 1)) else some (val (r.take 7), 1)) = _
  rw [if_neg h, if_pos rfl]
theorem grp_false (k : Nat) {r : List Bool} (h : ¬ r.length < 7) : grp (k + 1) (false :: r) = some (val (r.take 7), 1) := by
  unfold grp; simp [h]
theorem grp_sm : ∀ {k u : Nat} (r : List Bool), eights u ≤ k → grp k (sm u ++ r) = some (u, eights u)
  | 0, u, _, h => by have := eights_pos u; omega
  | k + 1, u, r, h => by
    by_cases hu : 127 < u
    · rw [eights_more hu] at h ⊢
      have ih := grp_sm (k := k) (u := u / 128) r (by omega)
      rw [sm_more hu]
      show grp (k + 1) (true :: (bits (u % 128) 7 ++ sm (u / 128) ++ r)) = _
      rw [grp_true k (by simp [bits_length])]
      have e1 : (bits (u % 128) 7 ++ sm (u / 128) ++ r).drop 7 = sm (u / 128) ++ r := by rw [List.append_assoc, List.drop_append_of_le_length (by rw [bits_length]; omega), List.drop_of_length_le (by rw [bits_length]; omega), List.nil_append]
      have e2 : (bits (u % 128) 7 ++ sm (u / 128) ++ r).take 7 = bits (u % 128) 7 := by rw [List.append_assoc, List.take_append_of_le_length (by rw [bits_length]; omega), List.take_of_length_le (by rw [bits_length]; omega)]
      rw [e1, ih, e2]
      simp [val_bits]; omega
    · rw [eights_last hu, sm_last hu]
      show grp (k + 1) (false :: (bits u 7 ++ r)) = _
      rw [grp_false k (by simp [bits_length])]
      have e2 : (bits u 7 ++ r).take 7 = bits u 7 := by rw [List.take_append_of_le_length (by rw [bits_length]; omega), List.take_of_length_le (by rw [bits_length]; omega)]
      rw [e2, val_bits, Nat.mod_eq_of_lt (show u < 2 ^ 7 by omega)]
theorem grp_far : ∀ {k u : Nat} (r : List Bool), k < eights u → grp k (sm u ++ r) = none
  | 0, _, _, _ => rfl
  | k + 1, u, r, h => by
    by_cases hu : 127 < u
    · rw [eights_more hu] at h
      have ih := grp_far (k := k) (u := u / 128) r (by omega)
      rw [sm_more hu]
      show grp (k + 1) (true :: (bits (u % 128) 7 ++ sm (u / 128) ++ r)) = _
      rw [grp_true k (by simp [bits_length])]
      have e1 : (bits (u % 128) 7 ++ sm (u / 128) ++ r).drop 7 = sm (u / 128) ++ r := by rw [List.append_assoc, List.drop_append_of_le_length (by rw [bits_length]; omega), List.drop_of_length_le (by rw [bits_length]; omega), List.nil_append]
      rw [e1, ih]
    · rw [eights_last hu] at h; omega
theorem grp_some : ∀ {k : Nat} {l : List Bool} {u c : Nat}, grp k l = some (u, c) → 1 ≤ c ∧ c ≤ k ∧ 8 * c ≤ l.length ∧ u < 128 ^ c ∧ eights u ≤ c ∧ (eights u = c → l.take (8 * c) = sm u)
  | 0, _, _, _, h => by cases h
  | k + 1, [], _, _, h => by cases h
  | k + 1, m :: r, u, c, h => by
    have h' : (if r.length < 7 then none else if m then (match grp k (r.drop 7) with | none => none | some (u, c) => some (val (r.take 7) + 128 * u, c + 1)) else some (val (r.take 7), 1)) = some (u, c) := h
    by_cases h7 : r.length < 7
    · rw [if_pos h7] at h'; cases h'
    · rw [if_neg h7] at h'
      have hl7 : (r.take 7).length = 7 := by rw [List.length_take]; omega
      have hv := val_lt (r.take 7)
      rw [hl7] at hv
      have hb := bits_val (r.take 7)
      rw [hl7] at hb
      cases m with
      | false =>
        simp at h'
        obtain ⟨rfl, rfl⟩ := h'
        refine ⟨Nat.le_refl _, by omega, by simp; omega, by omega, by rw [eights_last (by omega)]; exact Nat.le_refl _, fun _ => ?_⟩
        rw [sm_last (by omega), hb]
        rfl
      | true =>
        simp only [if_true] at h'
        cases hg : grp k (r.drop 7) with
        | none => rw [hg] at h'; cases h'
        | some p =>
          obtain ⟨u', c'⟩ := p
          rw [hg] at h'
          simp at h'
          obtain ⟨rfl, rfl⟩ := h'
          obtain ⟨g1, g2, g3, g4, g5, g6⟩ := grp_some hg
          rw [List.length_drop] at g3
          have hp : 128 ^ (c' + 1) = 128 ^ c' * 128 := Nat.pow_succ ..
          have hu : val (r.take 7) + 128 * u' < 128 ^ (c' + 1) := by rw [hp]; omega
          refine ⟨by omega, by omega, by simp; omega, hu, (eights_le (by omega)).2 hu, fun he => ?_⟩
          have h127 : 127 < val (r.take 7) + 128 * u' := by
            by_cases h0 : 127 < val (r.take 7) + 128 * u'
            · exact h0
            · rw [eights_last h0] at he; omega
          have hd : (val (r.take 7) + 128 * u') / 128 = u' := by omega
          rw [eights_more h127, hd] at he
          rw [sm_more h127, hd, show (val (r.take 7) + 128 * u') % 128 = val (r.take 7) by omega, hb, ← g6 (by omega), show 8 * (c' + 1) = 7 + 8 * c' + 1 by omega]
          show true :: r.take (7 + 8 * c') = true :: r.take 7 ++ (r.drop 7).take (8 * c')
          rw [List.take_add]
          rfl
/-- the next small number, and its bits: or none -/
def small (l : List Bool) : Option (Int × Nat) :=
  match grp 10 l with
  | none => none
  | some (u, c) => if u < 18446744073709551616 ∧ eights u = c then some (zag u, 8 * c) else none
theorem small_iff {l : List Bool} {x : Int} {n : Nat} : small l = some (x, n) ↔ (zig x < 18446744073709551616 ∧ n = 8 * eights (zig x) ∧ ∃ r, l = sm (zig x) ++ r) := by
  unfold small
  constructor
  · intro h
    cases hg : grp 10 l with
    | none => rw [hg] at h; cases h
    | some p =>
      obtain ⟨u, c⟩ := p
      rw [hg] at h
      simp only at h
      split at h
      · rename_i hc
        simp at h
        obtain ⟨rfl, rfl⟩ := h
        obtain ⟨_, _, _, _, _, g6⟩ := grp_some hg
        rw [zig_zag]
        refine ⟨hc.1, by rw [hc.2], l.drop (8 * c), ?_⟩
        rw [← g6 hc.2, List.take_append_drop]
      · cases h
  · rintro ⟨h1, rfl, r, rfl⟩
    rw [grp_sm r (eights_ten h1)]
    simp [h1, zag_zig]
theorem small_none {l : List Bool} (h : ∀ x r, zig x < 18446744073709551616 → l ≠ sm (zig x) ++ r) : small l = none := by
  cases hs : small l with
  | none => rfl
  | some p =>
    obtain ⟨x, n⟩ := p
    obtain ⟨h1, _, r, h2⟩ := small_iff.1 hs
    exact absurd h2 (h x r h1)
theorem small_sm {x : Int} (h : zig x < 18446744073709551616) (r : List Bool) : small (sm (zig x) ++ r) = some (x, 8 * eights (zig x)) := small_iff.2 ⟨h, rfl, r, rfl⟩

/-- the bytes of bits: what lacks of the last one is 0 -/
def byteAt (l : List Bool) (i : Nat) : Nat := val ((l.drop (8 * i)).take 8)
def pack (l : List Bool) : List Nat := (List.range ((l.length + 7) / 8)).map (byteAt l)
/-- the bits of bytes -/
def unpack (b : List Nat) : List Bool := b.flatMap fun x => bits x 8
theorem byteAt_lt (l : List Bool) (i : Nat) : byteAt l i < 256 := by
  have := val_lt ((l.drop (8 * i)).take 8)
  have h8 : ((l.drop (8 * i)).take 8).length ≤ 8 := by rw [List.length_take]; omega
  exact Nat.lt_of_lt_of_le this (Nat.pow_le_pow_right (n := 2) (by omega) h8)
theorem pack_lt (l : List Bool) : ∀ x ∈ pack l, x < 256 := by
  intro x hx
  obtain ⟨i, _, rfl⟩ := List.mem_map.1 hx
  exact byteAt_lt l i
theorem pack_length (l : List Bool) : (pack l).length = (l.length + 7) / 8 := by simp [pack]
theorem pack_at {l : List Bool} {i : Nat} (h : i < (l.length + 7) / 8) : (pack l).getD i 0 = byteAt l i := by
  simp [pack, List.getD, h]
theorem pack_nil : pack [] = [] := rfl
theorem unpack_length : ∀ b : List Nat, (unpack b).length = 8 * b.length
  | [] => rfl
  | x :: b => by
    show (bits x 8 ++ unpack b).length = _
    rw [List.length_append, bits_length, unpack_length b, List.length_cons]; omega
theorem unpack_append (a b : List Nat) : unpack (a ++ b) = unpack a ++ unpack b := List.flatMap_append
theorem bits_at : ∀ {n x i : Nat}, i < n → (bits x n).getD i false = (x / 2 ^ i % 2 == 1)
  | 0, _, _, h => by omega
  | n + 1, x, 0, _ => by show (x % 2 == 1) = _; rw [Nat.pow_zero, Nat.div_one]
  | n + 1, x, i + 1, h => by
    show (bits (x / 2) n).getD i false = _
    rw [bits_at (by omega), Nat.div_div_eq_div_mul, Nat.pow_succ, Nat.mul_comm 2]
theorem getD_left {α : Type} {l r : List α} {i : Nat} {d : α} (h : i < l.length) : (l ++ r).getD i d = l.getD i d := by simp [List.getD, List.getElem?_append_left h]
theorem getD_right {α : Type} {l r : List α} {i : Nat} {d : α} (h : l.length ≤ i) : (l ++ r).getD i d = r.getD (i - l.length) d := by simp [List.getD, List.getElem?_append_right h]
theorem unpack_at : ∀ {b : List Nat} {i : Nat}, i < 8 * b.length → (unpack b).getD i false = (b.getD (i / 8) 0 / 2 ^ (i % 8) % 2 == 1)
  | [], i, h => by simp at h
  | x :: b, i, h => by
    show (bits x 8 ++ unpack b).getD i false = _
    by_cases hi : i < 8
    · rw [show i / 8 = 0 by omega, show i % 8 = i by omega]
      rw [getD_left (by rw [bits_length]; exact hi), bits_at hi]
      rfl
    · rw [List.length_cons] at h
      rw [getD_right (by rw [bits_length]; omega), bits_length, unpack_at (by omega)]
      rw [show i / 8 = (i - 8) / 8 + 1 by omega, show i % 8 = (i - 8) % 8 by omega]
      rfl
end Go.Proofs.YtgabgkgokmeaeaaGreat.Bt


/- Bits and their bytes, there and back; what a reader does, as plain functions. -/
namespace Go.Proofs.YtgabgkgokmeaeaaGreat.Bt
set_option linter.unusedVariables false

theorem byteAt_keep {l : List Bool} {b : Bool} {i : Nat} (h : 8 * i + 8 ≤ l.length) : byteAt (l ++ [b]) i = byteAt l i := by
  unfold byteAt
  rw [List.drop_append_of_le_length (by omega), List.take_append_of_le_length (by rw [List.length_drop]; omega)]
/-- one bit more, in a new byte -/
theorem pack_new {l : List Bool} (b : Bool) (h : l.length % 8 = 0) : pack (l ++ [b]) = pack l ++ [b.toNat] := by
  unfold pack
  rw [List.length_append, List.length_singleton, show (l.length + 1 + 7) / 8 = (l.length + 7) / 8 + 1 by omega, List.range_succ, List.map_append]
  congr 1
  · apply List.map_congr_left
    intro i hi
    rw [List.mem_range] at hi
    exact byteAt_keep (by omega)
  · simp only [List.map_cons, List.map_nil, List.cons.injEq, and_true]
    unfold byteAt
    rw [show 8 * ((l.length + 7) / 8) = l.length by omega, List.drop_append_of_le_length (Nat.le_refl _), List.drop_length, List.nil_append]
    show b.toNat + 2 * 0 = b.toNat
    omega
/-- one bit more, in the last byte -/
theorem pack_more {l : List Bool} (b : Bool) (h : l.length % 8 ≠ 0) : pack (l ++ [b]) = (pack l).set (l.length / 8) (byteAt l (l.length / 8) + 2 ^ (l.length % 8) * b.toNat) := by
  apply List.ext_getElem
  · rw [List.length_set, pack_length, pack_length, List.length_append, List.length_singleton]; omega
  · intro i h1 h2
    rw [pack_length, List.length_append, List.length_singleton] at h1
    rw [List.getElem_set]
    have hl : (l ++ [b]).length = l.length + 1 := by simp
    by_cases e : l.length / 8 = i
    · rw [if_pos e]
      simp only [pack, List.getElem_map, List.getElem_range]
      subst e
      unfold byteAt
      have hd : (l.drop (8 * (l.length / 8))).length = l.length % 8 := by rw [List.length_drop]; omega
      rw [List.drop_append_of_le_length (by omega), List.take_of_length_le (by rw [List.length_append, hd, List.length_singleton]; omega), List.take_of_length_le (by omega), val_snoc, hd]
    · rw [if_neg e]
      simp only [pack, List.getElem_map, List.getElem_range]
      exact byteAt_keep (by omega)
theorem byteAt_last {l : List Bool} : byteAt l (l.length / 8) < 2 ^ (l.length % 8) := by
  unfold byteAt
  have hd : (l.drop (8 * (l.length / 8))).length = l.length % 8 := by rw [List.length_drop]; omega
  have := val_lt ((l.drop (8 * (l.length / 8))).take 8)
  rw [List.take_of_length_le (by omega), hd] at this
  rw [List.take_of_length_le (by omega)]
  exact this
/-- there and back: what lacks of the last byte is 0 -/
theorem unpack_pack (l : List Bool) : unpack (pack l) = l ++ List.replicate (8 * ((l.length + 7) / 8) - l.length) false := by
  apply List.ext_getElem
  · rw [unpack_length, pack_length, List.length_append, List.length_replicate]; omega
  · intro i h1 h2
    have h1' : i < 8 * (pack l).length := by rw [unpack_length] at h1; exact h1
    have e : (unpack (pack l)).getD i false = (unpack (pack l))[i] := by simp [List.getD, List.getElem?_eq_getElem h1]
    have hp : i / 8 < (l.length + 7) / 8 := by rw [pack_length] at h1'; omega
    rw [← e, unpack_at h1', pack_at hp]
    unfold byteAt
    have hb := bits_val ((l.drop (8 * (i / 8))).take 8)
    have hlen : ((l.drop (8 * (i / 8))).take 8).length = min 8 (l.length - 8 * (i / 8)) := by rw [List.length_take, List.length_drop]
    by_cases hi : i < l.length
    · have hk : i % 8 < ((l.drop (8 * (i / 8))).take 8).length := by rw [hlen]; omega
      rw [← bits_at hk, hb]
      simp [List.getD, List.getElem?_drop, show i % 8 < 8 by omega, show 8 * (i / 8) + i % 8 = i by omega, List.getElem_append_left hi, List.getElem?_eq_getElem hi]
    · have hv := val_lt ((l.drop (8 * (i / 8))).take 8)
      have hk : ((l.drop (8 * (i / 8))).take 8).length ≤ i % 8 := by rw [hlen]; omega
      have hz : val ((l.drop (8 * (i / 8))).take 8) / 2 ^ (i % 8) = 0 := Nat.div_eq_of_lt (Nat.lt_of_lt_of_le hv (Nat.pow_le_pow_right (n := 2) (by omega) hk))
      rw [hz]
      rw [List.getElem_append_right (by omega), List.getElem_replicate]
      rfl

/-- a reader: its bits, where it is, whether it has failed -/
structure Rd where
  l : List Bool
  at_ : Nat
  fail : Bool
namespace Rd
def ok (r : Rd) : Bool := !r.fail
def left (r : Rd) : Nat := r.l.length - r.at_
def rest (r : Rd) : List Bool := r.l.drop r.at_
def can (r : Rd) (n : Int) : Bool := !r.fail && decide (0 ≤ n) && decide (n ≤ 64) && decide (n ≤ (r.left : Int))
/-- n bits are taken: what they tell, and the reader behind -/
def tell (r : Rd) (n : Int) : Nat := if r.can n then val (r.rest.take n.toNat) else 0
def take (r : Rd) (n : Int) : Rd := if r.can n then ⟨r.l, r.at_ + n.toNat, false⟩ else ⟨r.l, r.at_, true⟩
/-- a small number is taken -/
def sTell (r : Rd) : Int := if r.fail then 0 else match small r.rest with | none => 0 | some (x, _) => x
def sTake (r : Rd) : Rd := if r.fail then r else match small r.rest with | none => ⟨r.l, r.at_, true⟩ | some (_, n) => ⟨r.l, r.at_ + n, false⟩
def done (r : Rd) : Bool := !r.fail && decide (r.left < 8) && r.rest.all (fun b => !b)
/-- where it is lies within its bits -/
def wf (r : Rd) : Prop := r.at_ ≤ r.l.length
theorem rest_length (r : Rd) : r.rest.length = r.left := List.length_drop
theorem can_iff {r : Rd} {n : Int} : r.can n = true ↔ r.fail = false ∧ 0 ≤ n ∧ n ≤ 64 ∧ n ≤ (r.left : Int) := by
  unfold can; simp [and_assoc]
theorem take_wf {r : Rd} {n : Int} (h : r.wf) : (r.take n).wf := by
  unfold take wf at *
  by_cases hc : r.can n = true
  · rw [if_pos hc]
    have := can_iff.1 hc
    unfold left at this
    show r.at_ + n.toNat ≤ r.l.length
    omega
  · rw [if_neg hc]; exact h
theorem small_le {l : List Bool} {x : Int} {n : Nat} (h : small l = some (x, n)) : n ≤ l.length := by
  obtain ⟨_, rfl, r, rfl⟩ := small_iff.1 h
  rw [List.length_append, sm_length]; omega
theorem sTake_wf {r : Rd} (h : r.wf) : r.sTake.wf := by
  unfold sTake
  split
  · exact h
  · cases hs : small r.rest with
    | none => exact h
    | some p =>
      obtain ⟨x, n⟩ := p
      have := small_le hs
      rw [rest_length] at this
      unfold left at this
      unfold wf at *
      show r.at_ + n ≤ r.l.length
      omega
theorem tell_lt (r : Rd) (n : Int) : r.tell n < 18446744073709551616 := by
  unfold tell
  split
  · rename_i hc
    have := can_iff.1 hc
    have hv := val_lt (r.rest.take n.toNat)
    have hp : 2 ^ (r.rest.take n.toNat).length ≤ 2 ^ 64 := Nat.pow_le_pow_right (by omega) (by rw [List.length_take]; omega)
    exact Nat.lt_of_lt_of_le hv hp
  · omega
end Rd
end Go.Proofs.YtgabgkgokmeaeaaGreat.Bt


/- Entities: formed ones, lists, their bits on a base; what a reader takes. Plain functions, and their laws. -/
namespace Go.Proofs.YtgabgkgokmeaeaaGreat.En
open Bt Go.RowKit
set_option linter.unusedVariables false

structure E where
  id : Int
  kind : Int
  ax : Int
  ay : Int
  vx : Int
  vy : Int
  h : Int
  t : Int
def I64 (x : Int) : Prop := -9223372036854775808 ≤ x ∧ x < 9223372036854775808
def E.wf (e : E) : Prop := I64 e.id ∧ I64 e.kind ∧ I64 e.ax ∧ I64 e.ay ∧ I64 e.vx ∧ I64 e.vy ∧ I64 e.h ∧ I64 e.t
abbrev Formed (e : E) : Prop :=
  ((e.kind = 1 ∧ 1 ≤ e.id ∧ e.id ≤ 8 ∧ ((0 < e.h ∧ e.t = 0) ∨ (e.h = 0 ∧ 0 < e.t))) ∨ (e.kind = 2 ∧ 9 ≤ e.id ∧ e.id ≤ 16 ∧ e.h = 100 ∧ e.t = 0)) ∧
  (-134217728 ≤ e.ax ∧ e.ax ≤ 134217728 ∧ -134217728 ≤ e.ay ∧ e.ay ≤ 134217728) ∧ (-65536 ≤ e.vx ∧ e.vx ≤ 65536 ∧ -65536 ≤ e.vy ∧ e.vy ≤ 65536) ∧ (0 ≤ e.h ∧ e.h ≤ 100 ∧ 0 ≤ e.t ∧ e.t ≤ 20)
/-- a list: each is formed, and the IDs rise -/
def rises : Option Int → List E → Bool
  | _, [] => true
  | o, e :: l => decide (Formed e) && (match o with | none => true | some i => decide (i < e.id)) && rises (some e.id) l
def list (l : List E) : Bool := rises none l
theorem rises_iff : ∀ (l : List E) (o : Option Int), rises o l = true ↔ (∀ i, o = some i → ∀ e, l[0]? = some e → i < e.id) ∧ ∀ i e, l[i]? = some e → Formed e ∧ ∀ d, 0 < i → l[i - 1]? = some d → d.id < e.id
  | [], o => by simp [rises]
  | e :: l, o => by
    have e1 : rises o (e :: l) = (decide (Formed e) && (match o with | none => true | some i => decide (i < e.id)) && rises (some e.id) l) := by cases o <;> rfl
    rw [e1, Bool.and_eq_true, Bool.and_eq_true, decide_eq_true_iff, rises_iff l]
    constructor
    · rintro ⟨⟨h1, h2⟩, h3, h4⟩
      refine ⟨?_, ?_⟩
      · rintro i rfl d hd
        simp at hd
        subst hd
        simpa using h2
      · intro i d hi
        cases i with
        | zero => simp at hi; subst hi; exact ⟨h1, fun _ h => absurd h (by omega)⟩
        | succ i =>
          rw [List.getElem?_cons_succ] at hi
          refine ⟨(h4 i d hi).1, ?_⟩
          intro c _ hc
          cases i with
          | zero => simp at hc; subst hc; exact h3 _ rfl d hi
          | succ i =>
            rw [show i + 1 + 1 - 1 = i + 1 by omega, List.getElem?_cons_succ] at hc
            exact (h4 (i + 1) d hi).2 c (by omega) hc
    · rintro ⟨h1, h2⟩
      refine ⟨⟨(h2 0 e rfl).1, ?_⟩, ?_, ?_⟩
      · cases o with
        | none => rfl
        | some i => simpa using h1 i rfl e rfl
      · rintro i hi d hd
        simp at hi
        subst hi
        exact (h2 1 d (by rw [List.getElem?_cons_succ]; exact hd)).2 e (by omega) rfl
      · intro i d hi
        have := h2 (i + 1) d (by rw [List.getElem?_cons_succ]; exact hi)
        refine ⟨this.1, fun c h0 hc => this.2 c (by omega) ?_⟩
        obtain ⟨j, rfl⟩ : ∃ j, i = j + 1 := ⟨i - 1, by omega⟩
        rw [show j + 1 + 1 - 1 = j + 1 by omega, List.getElem?_cons_succ]
        rw [show j + 1 - 1 = j by omega] at hc
        exact hc
theorem list_iff (l : List E) : list l = true ↔ ∀ i e, l[i]? = some e → Formed e ∧ ∀ d, 0 < i → l[i - 1]? = some d → d.id < e.id := by
  unfold list
  rw [rises_iff]
  simp
theorem list_not {l : List E} {i : Nat} {e : E} (hi : l[i]? = some e) (h : ¬ (Formed e ∧ ∀ d, 0 < i → l[i - 1]? = some d → d.id < e.id)) : list l = false := by
  cases hr : list l with
  | false => rfl
  | true => exact absurd ((list_iff l).1 hr i e hi) h
/-- where an ID stands -/
def find (l : List E) (id : Int) : Int := match l.findIdx? (fun e => e.id == id) with | none => -1 | some k => (k : Int)
theorem find_at {l : List E} {k : Nat} {e : E} {id : Int} (hk : l[k]? = some e) (he : e.id = id) (hb : ∀ (j : Nat) (d : E), j < k → l[j]? = some d → d.id ≠ id) : find l id = (k : Int) := by
  have hl := (List.getElem?_eq_some_iff.1 hk).1
  have : l.findIdx? (fun e => e.id == id) = some k := by
    rw [List.findIdx?_eq_some_iff_getElem]
    refine ⟨hl, ?_, ?_⟩
    · have : l[k] = e := by rw [List.getElem?_eq_getElem hl] at hk; simpa using hk
      simp [this, he]
    · intro j hj
      have := hb j l[j] hj (List.getElem?_eq_getElem (by omega))
      simpa using this
  unfold find
  rw [this]
theorem find_no {l : List E} {id : Int} (hb : ∀ (j : Nat) (d : E), l[j]? = some d → d.id ≠ id) : find l id = -1 := by
  have : l.findIdx? (fun e => e.id == id) = none := by
    rw [List.findIdx?_eq_none_iff]
    intro x hx
    obtain ⟨j, hj⟩ := List.mem_iff_getElem?.1 hx
    simpa using hb j x hj
  unfold find
  rw [this]

/-- an entity's fields -/
def field (e : E) : Nat → Int
  | 0 => e.ax
  | 1 => e.ay
  | 2 => e.vx
  | 3 => e.vy
  | 4 => e.h
  | _ => e.t
def put (e : E) (i : Nat) (x : Int) : E :=
  match i with
  | 0 => { e with ax := x }
  | 1 => { e with ay := x }
  | 2 => { e with vx := x }
  | 3 => { e with vy := x }
  | 4 => { e with h := x }
  | 5 => { e with t := x }
  | _ => e
theorem six {P : Nat → Prop} (h0 : P 0) (h1 : P 1) (h2 : P 2) (h3 : P 3) (h4 : P 4) (h5 : P 5) : ∀ i, i < 6 → P i := by
  intro i hi
  match i, hi with
  | 0, _ => exact h0
  | 1, _ => exact h1
  | 2, _ => exact h2
  | 3, _ => exact h3
  | 4, _ => exact h4
  | 5, _ => exact h5
theorem field_put (e : E) (x : Int) : ∀ i, i < 6 → ∀ j, j < 6 → field (put e i x) j = if i = j then x else field e j := by
  refine six ?_ ?_ ?_ ?_ ?_ ?_ <;> refine six ?_ ?_ ?_ ?_ ?_ ?_ <;> rfl
theorem put_id (e : E) (i : Nat) (x : Int) : (put e i x).id = e.id ∧ (put e i x).kind = e.kind := by
  unfold put
  split <;> exact ⟨rfl, rfl⟩
theorem ext {a b : E} (hi : a.id = b.id) (hk : a.kind = b.kind) (h : ∀ j, j < 6 → field a j = field b j) : a = b := by
  cases a; cases b
  have h0 := h 0 (by omega)
  have h1 := h 1 (by omega)
  have h2 := h 2 (by omega)
  have h3 := h 3 (by omega)
  have h4 := h 4 (by omega)
  have h5 := h 5 (by omega)
  simp only [field] at h0 h1 h2 h3 h4 h5 hi hk
  subst h0 h1 h2 h3 h4 h5 hi hk
  rfl
theorem field_wf {e : E} (h : e.wf) : ∀ j, j < 6 → I64 (field e j) := by
  obtain ⟨_, _, h2, h3, h4, h5, h6, h7⟩ := h
  exact six h2 h3 h4 h5 h6 h7
/-- whether a field is another one; the difference -/
def dif (b e : E) (i : Nat) : Bool := !(field b i == field e i)
def flags (b e : E) (k : Nat) : List Bool := (List.range k).map (dif b e)
def small1 (b e : E) (i : Nat) : List Bool := if dif b e i then sm (zig (wrap64 (field e i - field b i))) else []
def smalls (b e : E) (k : Nat) : List Bool := (List.range k).flatMap (small1 b e)
/-- an entity's bits on a base -/
def all (b e : E) : List Bool := flags b e 6 ++ smalls b e 6
theorem flags_succ (b e : E) (k : Nat) : flags b e (k + 1) = flags b e k ++ [dif b e k] := by unfold flags; rw [List.range_succ, List.map_append]; rfl
theorem smalls_succ (b e : E) (k : Nat) : smalls b e (k + 1) = smalls b e k ++ small1 b e k := by unfold smalls; rw [List.range_succ, List.flatMap_append]; simp
theorem flags_len (b e : E) (k : Nat) : (flags b e k).length = k := by unfold flags; simp
theorem w64_i (z : Int) : I64 (wrap64 z) := by unfold I64 wrap64; omega
theorem small1_len (b e : E) (i : Nat) : (small1 b e i).length ≤ 80 := by
  unfold small1
  split
  · have := eights_ten (zig_lt (w64_i (field e i - field b i)).1 (w64_i (field e i - field b i)).2)
    rw [sm_length]; omega
  · simp
theorem smalls_len (b e : E) : ∀ k, (smalls b e k).length ≤ 80 * k
  | 0 => by simp [smalls]
  | k + 1 => by rw [smalls_succ, List.length_append]; have := smalls_len b e k; have := small1_len b e k; omega
theorem all_len (b e : E) : (all b e).length ≤ 486 := by
  unfold all
  rw [List.length_append, flags_len]; have := smalls_len b e 6; omega
end Go.Proofs.YtgabgkgokmeaeaaGreat.En


/- How one moves: steps of players and of balls. Plain functions, and their laws. -/
namespace Go.Proofs.YtgabgkgokmeaeaaGreat.Mv
set_option linter.unusedVariables false

/-- the box around a place -/
def boxAt (x y : Int) : Ti.Bx := ⟨Fx.sub x 24576, Fx.sub y 24576, Fx.add x 24576, Fx.add y 24576⟩
def stands (m : Ti.M) (x y : Int) : Bool := Ti.freeB m (boxAt x y)
def down (n : Int) : Int := n / 127
/-- where one comes to, in one direction and then in the other -/
def goX (m : Ti.M) (x y d : Int) : Int := if stands m (x + d) y = true then x + d else x
def goY (m : Ti.M) (x y d : Int) : Int := if stands m x (y + d) = true then y + d else y
/-- whether a player walks -/
def walks (e : En.E) (mx my : Int) : Bool := decide (En.Formed e) && (decide (e.kind = 1) && (!decide (e.h = 0) && (!decide (mx = -128) && !decide (my = -128))))
def rolls (e : En.E) : Bool := decide (En.Formed e) && decide (e.kind = 2)
def stepped (m : Ti.M) (e : En.E) (vx vy : Int) : En.E := ⟨e.id, e.kind, goX m e.ax e.ay vx, goY m (goX m e.ax e.ay vx) e.ay vy, vx, vy, e.h, e.t⟩
def walk (m : Ti.M) (e : En.E) (mx my : Int) : En.E := if walks e mx my = true then stepped m e (down (mx * 16384)) (down (my * 16384)) else e
def turnX (m : Ti.M) (x y d : Int) : Int := if stands m (x + d) y = true then d else -d
def turnY (m : Ti.M) (x y d : Int) : Int := if stands m x (y + d) = true then d else -d
def rolled (m : Ti.M) (e : En.E) : En.E := ⟨e.id, e.kind, goX m e.ax e.ay e.vx, goY m (goX m e.ax e.ay e.vx) e.ay e.vy, turnX m e.ax e.ay e.vx, turnY m (goX m e.ax e.ay e.vx) e.ay e.vy, e.h, e.t⟩
def roll (m : Ti.M) (e : En.E) : En.E := if rolls e = true then rolled m e else e

theorem hold_box {x : Int} (h0 : 0 ≤ Fx.sub x 24576) (h1 : Fx.add x 24576 ≤ 2097152) : 24576 ≤ x ∧ x ≤ 2072576 ∧ Fx.sub x 24576 = x - 24576 ∧ Fx.add x 24576 = x + 24576 := by
  have h24 : Fx.hold 24576 = 24576 := Fx.hold_of (by omega) (by omega)
  unfold Fx.sub at h0 ⊢
  unfold Fx.add at h1 ⊢
  rw [h24] at h0 h1 ⊢
  have b0 := Fx.hold_lo x
  have b1 := Fx.hold_hi x
  have s0 : 24576 ≤ Fx.hold x := by
    by_cases h : 24576 ≤ Fx.hold x
    · exact h
    · by_cases h' : -2147483648 ≤ Fx.hold x - 24576
      · rw [Fx.hold_of h' (by omega)] at h0; omega
      · rw [Fx.hold_below (by omega)] at h0; omega
  have s2 : Fx.hold x ≤ 2072576 := by
    by_cases h : Fx.hold x + 24576 ≤ 2147483647
    · rw [Fx.hold_of (by omega) h] at h1; omega
    · rw [Fx.hold_above (by omega)] at h1; omega
  have s3 : Fx.hold x = x := by
    by_cases h : x < -2147483648
    · rw [Fx.hold_below h] at s0; omega
    · by_cases h' : 2147483647 < x
      · rw [Fx.hold_above h'] at s2; omega
      · exact Fx.hold_of (by omega) (by omega)
  rw [s3] at s0 s2 ⊢
  rw [Fx.hold_of (x := x + 24576) (by omega) (by omega), Fx.hold_of (x := x - 24576) (by omega) (by omega)]
  omega
/-- who stands, stands there -/
theorem stands_box {m : Ti.M} {x y : Int} (h : stands m x y = true) : (24576 ≤ x ∧ x ≤ 2072576) ∧ (24576 ≤ y ∧ y ≤ 2072576) ∧ boxAt x y = ⟨x - 24576, y - 24576, x + 24576, y + 24576⟩ := by
  have hf := (Ti.free_is m _).1 h
  obtain ⟨d1, d2, d3, d4, _⟩ := hf.1.1
  obtain ⟨w1, w2, w3, w4, w5, w6⟩ := hf.2.1
  have w3' : 0 ≤ Fx.sub x 24576 := w3
  have w4' : 0 ≤ Fx.sub y 24576 := w4
  have w5' : Fx.add x 24576 ≤ m.W * 65536 := w5
  have w6' : Fx.add y 24576 ≤ m.H * 65536 := w6
  obtain ⟨a1, a2, a3, a4⟩ := hold_box w3' (by omega)
  obtain ⟨b1, b2, b3, b4⟩ := hold_box w4' (by omega)
  refine ⟨⟨a1, a2⟩, ⟨b1, b2⟩, ?_⟩
  unfold boxAt
  rw [a3, a4, b3, b4]
theorem box_small {x y : Int} (hx : 0 ≤ x ∧ x ≤ 4000000) (hy : 0 ≤ y ∧ y ≤ 4000000) : boxAt x y = ⟨x - 24576, y - 24576, x + 24576, y + 24576⟩ := by
  unfold boxAt Fx.sub Fx.add
  rw [Fx.hold_of (x := x) (by omega) (by omega), Fx.hold_of (x := y) (by omega) (by omega), Fx.hold_of (x := 24576) (by omega) (by omega), Fx.hold_of (by omega) (by omega), Fx.hold_of (by omega) (by omega), Fx.hold_of (by omega) (by omega), Fx.hold_of (by omega) (by omega)]

theorem goX_stands {m : Ti.M} {x y d : Int} (h : stands m x y = true) : stands m (goX m x y d) y = true := by
  unfold goX
  split
  · rename_i h1; exact h1
  · exact h
theorem goY_stands {m : Ti.M} {x y d : Int} (h : stands m x y = true) : stands m x (goY m x y d) = true := by
  unfold goY
  split
  · rename_i h1; exact h1
  · exact h
theorem goX_far {m : Ti.M} {x y d : Int} : goX m x y d = x + d ∨ goX m x y d = x := by unfold goX; split <;> simp
theorem goY_far {m : Ti.M} {x y d : Int} : goY m x y d = y + d ∨ goY m x y d = y := by unfold goY; split <;> simp
theorem down_in {n : Int} (h0 : -127 ≤ n) (h1 : n ≤ 127) : -16384 ≤ down (n * 16384) ∧ down (n * 16384) ≤ 16384 := by unfold down; omega
theorem walks_iff {e : En.E} {mx my : Int} : walks e mx my = true ↔ En.Formed e ∧ e.kind = 1 ∧ e.h ≠ 0 ∧ mx ≠ -128 ∧ my ≠ -128 := by
  unfold walks
  rw [Bool.and_eq_true, Bool.and_eq_true, Bool.and_eq_true, Bool.and_eq_true, decide_eq_true_iff, decide_eq_true_iff, Bool.not_eq_true', Bool.not_eq_true', Bool.not_eq_true', decide_eq_false_iff_not, decide_eq_false_iff_not, decide_eq_false_iff_not]
theorem rolls_iff {e : En.E} : rolls e = true ↔ En.Formed e ∧ e.kind = 2 := by
  unfold rolls
  rw [Bool.and_eq_true, decide_eq_true_iff, decide_eq_true_iff]
/-- who stands free stands free behind a step, and is no further than Speed -/
theorem walk_free {m : Ti.M} {e : En.E} {mx my : Int} (h : stands m e.ax e.ay = true) (hx : -128 ≤ mx ∧ mx ≤ 127) (hy : -128 ≤ my ∧ my ≤ 127) :
    stands m (walk m e mx my).ax (walk m e mx my).ay = true ∧ (-16384 ≤ (walk m e mx my).ax - e.ax ∧ (walk m e mx my).ax - e.ax ≤ 16384) ∧ (-16384 ≤ (walk m e mx my).ay - e.ay ∧ (walk m e mx my).ay - e.ay ≤ 16384) ∧ (walk m e mx my).id = e.id ∧ (walk m e mx my).h = e.h ∧ (walk m e mx my).t = e.t := by
  unfold walk
  by_cases hw : walks e mx my = true
  · rw [if_pos hw]
    obtain ⟨_, _, _, h1, h2⟩ := walks_iff.1 hw
    have d1 := down_in (n := mx) (by omega) (by omega)
    have d2 := down_in (n := my) (by omega) (by omega)
    refine ⟨goY_stands (goX_stands h), ?_, ?_, rfl, rfl, rfl⟩
    · show -16384 ≤ goX m e.ax e.ay (down (mx * 16384)) - e.ax ∧ goX m e.ax e.ay (down (mx * 16384)) - e.ax ≤ 16384
      rcases goX_far (m := m) (x := e.ax) (y := e.ay) (d := down (mx * 16384)) with e1 | e1 <;> rw [e1] <;> omega
    · show -16384 ≤ goY m (goX m e.ax e.ay (down (mx * 16384))) e.ay (down (my * 16384)) - e.ay ∧ goY m (goX m e.ax e.ay (down (mx * 16384))) e.ay (down (my * 16384)) - e.ay ≤ 16384
      rcases goY_far (m := m) (x := goX m e.ax e.ay (down (mx * 16384))) (y := e.ay) (d := down (my * 16384)) with e1 | e1 <;> rw [e1] <;> omega
  · rw [if_neg hw]
    exact ⟨h, by omega, by omega, rfl, rfl, rfl⟩
/-- a step's entity has numbers that may be -/
theorem walk_wf {m : Ti.M} {e : En.E} {mx my : Int} (he : e.wf) (hx : -128 ≤ mx ∧ mx ≤ 127) (hy : -128 ≤ my ∧ my ≤ 127) : (walk m e mx my).wf := by
  unfold walk
  by_cases hw : walks e mx my = true
  · rw [if_pos hw]
    obtain ⟨hf, _, _, h1, h2⟩ := walks_iff.1 hw
    have d1 := down_in (n := mx) (by omega) (by omega)
    have d2 := down_in (n := my) (by omega) (by omega)
    obtain ⟨q1, q2, q3, q4, q5, q6, q7, q8⟩ := he
    obtain ⟨_, ⟨a1, a2, a3, a4⟩, _⟩ := hf
    have g1 := goX_far (m := m) (x := e.ax) (y := e.ay) (d := down (mx * 16384))
    have g2 := goY_far (m := m) (x := goX m e.ax e.ay (down (mx * 16384))) (y := e.ay) (d := down (my * 16384))
    refine ⟨q1, q2, ?_, ?_, ?_, ?_, q7, q8⟩
    · show En.I64 (goX m e.ax e.ay (down (mx * 16384))); unfold En.I64; omega
    · show En.I64 (goY m (goX m e.ax e.ay (down (mx * 16384))) e.ay (down (my * 16384))); unfold En.I64; omega
    · show En.I64 (down (mx * 16384)); unfold En.I64; omega
    · show En.I64 (down (my * 16384)); unfold En.I64; omega
  · rw [if_neg hw]; exact he
theorem roll_wf {m : Ti.M} {e : En.E} (he : e.wf) : (roll m e).wf := by
  unfold roll
  by_cases hw : rolls e = true
  · rw [if_pos hw]
    obtain ⟨hf, _⟩ := rolls_iff.1 hw
    obtain ⟨q1, q2, q3, q4, q5, q6, q7, q8⟩ := he
    obtain ⟨_, ⟨a1, a2, a3, a4⟩, ⟨b1, b2, b3, b4⟩, _⟩ := hf
    have g1 := goX_far (m := m) (x := e.ax) (y := e.ay) (d := e.vx)
    have g2 := goY_far (m := m) (x := goX m e.ax e.ay e.vx) (y := e.ay) (d := e.vy)
    refine ⟨q1, q2, ?_, ?_, ?_, ?_, q7, q8⟩
    · show En.I64 (goX m e.ax e.ay e.vx); unfold En.I64; omega
    · show En.I64 (goY m (goX m e.ax e.ay e.vx) e.ay e.vy); unfold En.I64; omega
    · show En.I64 (turnX m e.ax e.ay e.vx); unfold En.I64 turnX; split <;> omega
    · show En.I64 (turnY m (goX m e.ax e.ay e.vx) e.ay e.vy); unfold En.I64 turnY; split <;> omega
  · rw [if_neg hw]; exact he
/-- a ball that stands free stands free behind a step; where it is blocked it is turned about, and stays -/
theorem roll_free {m : Ti.M} {e : En.E} (h : stands m e.ax e.ay = true) :
    stands m (roll m e).ax (roll m e).ay = true ∧ ((roll m e).vx = e.vx ∧ ((roll m e).ax = e.ax + e.vx ∨ (roll m e).ax = e.ax) ∨ (roll m e).vx = -e.vx ∧ (roll m e).ax = e.ax) ∧ ((roll m e).vy = e.vy ∧ ((roll m e).ay = e.ay + e.vy ∨ (roll m e).ay = e.ay) ∨ (roll m e).vy = -e.vy ∧ (roll m e).ay = e.ay) ∧ (rolls e = false → roll m e = e) := by
  unfold roll
  by_cases hw : rolls e = true
  · rw [if_pos hw]
    refine ⟨goY_stands (goX_stands h), ?_, ?_, fun hf => by rw [hw] at hf; cases hf⟩
    · show turnX m e.ax e.ay e.vx = e.vx ∧ (goX m e.ax e.ay e.vx = e.ax + e.vx ∨ goX m e.ax e.ay e.vx = e.ax) ∨ turnX m e.ax e.ay e.vx = -e.vx ∧ goX m e.ax e.ay e.vx = e.ax
      unfold turnX goX
      split
      · exact .inl ⟨rfl, .inl rfl⟩
      · exact .inr ⟨rfl, rfl⟩
    · show turnY m (goX m e.ax e.ay e.vx) e.ay e.vy = e.vy ∧ (goY m (goX m e.ax e.ay e.vx) e.ay e.vy = e.ay + e.vy ∨ goY m (goX m e.ax e.ay e.vx) e.ay e.vy = e.ay) ∨ turnY m (goX m e.ax e.ay e.vx) e.ay e.vy = -e.vy ∧ goY m (goX m e.ax e.ay e.vx) e.ay e.vy = e.ay
      unfold turnY goY
      split
      · exact .inl ⟨rfl, .inl rfl⟩
      · exact .inr ⟨rfl, rfl⟩
  · rw [if_neg hw]
    exact ⟨h, .inl ⟨rfl, .inr rfl⟩, .inl ⟨rfl, .inr rfl⟩, fun _ => rfl⟩
end Go.Proofs.YtgabgkgokmeaeaaGreat.Mv


/- How one moves in three small maps: shut in, in the open, and in a row of two tiles. -/
namespace Go.Proofs.YtgabgkgokmeaeaaGreat.Mv
set_option linter.unusedVariables false

def mapS : Ti.M := ⟨3, 3, [true, true, true, true, false, true, true, true, true], [(98304, 98304)]⟩
def mapO : Ti.M := ⟨3, 3, [false, false, false, false, false, false, false, false, false], [(98304, 98304)]⟩
def mapA : Ti.M := ⟨2, 1, [false, false], [(32768, 32768)]⟩
def textS : List UInt8 := [226, 150, 136, 226, 150, 136, 226, 150, 136, 10, 226, 150, 136, 226, 151, 142, 226, 150, 136, 10, 226, 150, 136, 226, 150, 136, 226, 150, 136, 10]
def textO : List UInt8 := [194, 183, 194, 183, 194, 183, 10, 194, 183, 226, 151, 142, 194, 183, 10, 194, 183, 194, 183, 194, 183, 10]
def textA : List UInt8 := [226, 151, 142, 194, 183, 10]
theorem readS : Ti.read textS = (some ⟨0, 3, 3, [true, true, true, true, false, true, true, true, true], [(98304, 98304)]⟩, 0) := by rfl
theorem readO : Ti.read textO = (some ⟨0, 3, 3, [false, false, false, false, false, false, false, false, false], [(98304, 98304)]⟩, 0) := by rfl
theorem readA : Ti.read textA = (some ⟨0, 2, 1, [false, false], [(32768, 32768)]⟩, 0) := by rfl
theorem formedS : Ti.Formed mapS := (Ti.read_formed readS).1
theorem formedO : Ti.Formed mapO := (Ti.read_formed readO).1
theorem formedA : Ti.Formed mapA := (Ti.read_formed readA).1
theorem wallS (x y : Nat) (hx : x < 3) (hy : y < 3) (h : ¬ (x = 1 ∧ y = 1)) : Ti.wall mapS x y = true := by
  have hx' : x = 0 ∨ x = 1 ∨ x = 2 := by omega
  have hy' : y = 0 ∨ y = 1 ∨ y = 2 := by omega
  rcases hx' with rfl | rfl | rfl <;> rcases hy' with rfl | rfl | rfl <;> first | rfl | exact absurd ⟨rfl, rfl⟩ h
theorem wallO (x y : Nat) (hx : x < 3) (hy : y < 3) : Ti.wall mapO x y = false := by
  have hx' : x = 0 ∨ x = 1 ∨ x = 2 := by omega
  have hy' : y = 0 ∨ y = 1 ∨ y = 2 := by omega
  rcases hx' with rfl | rfl | rfl <;> rcases hy' with rfl | rfl | rfl <;> rfl
theorem wallA (x y : Nat) (hx : x < 2) (hy : y < 1) : Ti.wall mapA x y = false := by
  have hx' : x = 0 ∨ x = 1 := by omega
  have hy' : y = 0 := by omega
  subst hy'
  rcases hx' with rfl | rfl <;> rfl
/-- shut in: one stands within the tile -/
theorem stays {x y : Int} (h : stands mapS x y = true) : (90112 ≤ x ∧ x ≤ 106496) ∧ (90112 ≤ y ∧ y ≤ 106496) := by
  obtain ⟨⟨a1, a2⟩, ⟨b1, b2⟩, hb⟩ := stands_box h
  have hf := (Ti.free_is mapS _).1 h
  rw [hb] at hf
  obtain ⟨_, ⟨w1, w2, w3, w4, w5, w6⟩, hw⟩ := hf
  have w5' : x + 24576 ≤ 3 * 65536 := w5
  have w6' : y + 24576 ≤ 3 * 65536 := w6
  have no : ∀ (i j : Nat), i < 3 → j < 3 → ¬ (i = 1 ∧ j = 1) → ¬ ((i : Int) * 65536 < x + 24576 ∧ x - 24576 < (i : Int) * 65536 + 65536 ∧ (j : Int) * 65536 < y + 24576 ∧ y - 24576 < (j : Int) * 65536 + 65536) :=
    fun i j hi hj hn ho => hw i j hi hj (wallS i j hi hj hn) ho
  have j0 : ∃ j : Nat, j < 3 ∧ (j : Int) * 65536 < y + 24576 ∧ y - 24576 < (j : Int) * 65536 + 65536 := ⟨((y - 24576) / 65536).toNat, by omega, by omega, by omega⟩
  have i0 : ∃ i : Nat, i < 3 ∧ (i : Int) * 65536 < x + 24576 ∧ x - 24576 < (i : Int) * 65536 + 65536 := ⟨((x - 24576) / 65536).toNat, by omega, by omega, by omega⟩
  obtain ⟨j, j1, j2, j3⟩ := j0
  obtain ⟨i, i1, i2, i3⟩ := i0
  have q0 := no 0 j (by omega) j1 (by omega)
  have q2 := no 2 j (by omega) j1 (by omega)
  have r0 := no i 0 i1 (by omega) (by omega)
  have r2 := no i 2 i1 (by omega) (by omega)
  refine ⟨⟨?_, ?_⟩, ?_, ?_⟩
  · by_cases hc : 90112 ≤ x
    · exact hc
    · exact absurd ⟨by omega, by omega, j2, j3⟩ q0
  · by_cases hc : x ≤ 106496
    · exact hc
    · exact absurd ⟨by omega, by omega, j2, j3⟩ q2
  · by_cases hc : 90112 ≤ y
    · exact hc
    · exact absurd ⟨i2, i3, by omega, by omega⟩ r0
  · by_cases hc : y ≤ 106496
    · exact hc
    · exact absurd ⟨i2, i3, by omega, by omega⟩ r2
theorem stands_of {m : Ti.M} {x y : Int} (hF : Ti.Formed m) (hx : 24576 ≤ x ∧ x + 24576 ≤ m.W * 65536) (hy : 24576 ≤ y ∧ y + 24576 ≤ m.H * 65536) (h : ∀ i j, i < m.W.toNat → j < m.H.toNat → Ti.wall m i j = true → ¬ Ti.Over i j ⟨x - 24576, y - 24576, x + 24576, y + 24576⟩) : stands m x y = true := by
  obtain ⟨d1, d2, d3, d4, _⟩ := hF.1
  refine (Ti.free_is m _).2 ?_
  rw [box_small (by omega) (by omega)]
  exact ⟨hF, ⟨by show x - 24576 ≤ x + 24576; omega, by show y - 24576 ≤ y + 24576; omega, by show 0 ≤ x - 24576; omega, by show 0 ≤ y - 24576; omega, hx.2, hy.2⟩, h⟩
/-- in the open -/
theorem opens {x y : Int} (hx : 24576 ≤ x ∧ x ≤ 172032) (hy : 24576 ≤ y ∧ y ≤ 172032) : stands mapO x y = true :=
  stands_of formedO ⟨hx.1, by show x + 24576 ≤ 3 * 65536; omega⟩ ⟨hy.1, by show y + 24576 ≤ 3 * 65536; omega⟩ fun i j hi hj hw => by
    rw [wallO i j hi hj] at hw
    cases hw
theorem row {x : Int} (hx : 24576 ≤ x ∧ x ≤ 106496) : stands mapA x 32768 = true :=
  stands_of formedA ⟨hx.1, by show x + 24576 ≤ 2 * 65536; omega⟩ ⟨by omega, by show (32768 : Int) + 24576 ≤ 1 * 65536; omega⟩ fun i j hi hj hw => by
    rw [wallA i j hi hj] at hw
    cases hw
theorem start_stays : stands mapS 98304 98304 = true :=
  stands_of formedS ⟨by omega, by show (98304 : Int) + 24576 ≤ 3 * 65536; omega⟩ ⟨by omega, by show (98304 : Int) + 24576 ≤ 3 * 65536; omega⟩ fun i j hi hj hw ho => by
    obtain ⟨h1, h2, h3, h4⟩ := ho
    have h1' : (i : Int) * 65536 < 98304 + 24576 := h1
    have h2' : (98304 : Int) - 24576 < (i : Int) * 65536 + 65536 := h2
    have h3' : (j : Int) * 65536 < 98304 + 24576 := h3
    have h4' : (98304 : Int) - 24576 < (j : Int) * 65536 + 65536 := h4
    obtain rfl : i = 1 := by omega
    obtain rfl : j = 1 := by omega
    cases hw
end Go.Proofs.YtgabgkgokmeaeaaGreat.Mv


/- Numbers by chance, plain: the next state and its number, and that both tell the state. -/
namespace Go.Proofs.YtgabgkgokmeaeaaGreat.Ra
set_option linter.unusedVariables false

def nxt (s : Nat) : Nat := (s + 11400714819323198485) % 18446744073709551616
def mixA (x : Nat) : Nat := (x ^^^ x / 1073741824) * 13787848793156543929 % 18446744073709551616
def mixB (x : Nat) : Nat := (x ^^^ x / 134217728) * 10723151780598845931 % 18446744073709551616
def mixC (x : Nat) : Nat := x ^^^ x / 2147483648
/-- a state's number, out of the next one -/
def num (s : Nat) : Nat := mixC (mixB (mixA (nxt s)))
theorem nxt_lt (s : Nat) : nxt s < 18446744073709551616 := Nat.mod_lt _ (by omega)
theorem mixA_lt (s : Nat) : mixA s < 18446744073709551616 := Nat.mod_lt _ (by omega)
theorem mixB_lt (s : Nat) : mixB s < 18446744073709551616 := Nat.mod_lt _ (by omega)
theorem xor_lt {a b : Nat} (ha : a < 18446744073709551616) (hb : b < 18446744073709551616) : a ^^^ b < 18446744073709551616 := Nat.xor_lt_two_pow (n := 64) ha hb
theorem mixC_lt {x : Nat} (h : x < 18446744073709551616) : mixC x < 18446744073709551616 := xor_lt h (by omega)
theorem num_lt (s : Nat) : num s < 18446744073709551616 := mixC_lt (mixB_lt _)
theorem xor_inj {a b : Nat} (h : a ^^^ b = 0) : a = b := by
  have e : (a ^^^ b) ^^^ b = b := by rw [h, Nat.zero_xor]
  rw [Nat.xor_assoc, Nat.xor_self, Nat.xor_zero] at e
  exact e
theorem fold_inj {x y : Nat} (k : Nat) (hk : 0 < k) (h : x ^^^ x / 2 ^ k = y ^^^ y / 2 ^ k) : x = y := by
  have e : (x ^^^ y) ^^^ (x ^^^ y) / 2 ^ k = 0 := by
    rw [← Nat.shiftRight_eq_div_pow, Nat.shiftRight_xor_distrib, Nat.shiftRight_eq_div_pow, Nat.shiftRight_eq_div_pow]
    have : (x ^^^ x / 2 ^ k) ^^^ (y ^^^ y / 2 ^ k) = 0 := by rw [h, Nat.xor_self]
    rw [Nat.xor_assoc, ← Nat.xor_assoc (x / 2 ^ k), Nat.xor_comm (x / 2 ^ k) y, Nat.xor_assoc y, ← Nat.xor_assoc] at this
    exact this
  have e2 := xor_inj e
  have hz : x ^^^ y = 0 := by
    by_cases h0 : x ^^^ y = 0
    · exact h0
    · have : (x ^^^ y) / 2 ^ k < x ^^^ y := Nat.div_lt_self (Nat.pos_of_ne_zero h0) (Nat.one_lt_two_pow (by omega))
      omega
  exact xor_inj hz
theorem nxt_inj {a b : Nat} (ha : a < 18446744073709551616) (hb : b < 18446744073709551616) (h : nxt a = nxt b) : a = b := by unfold nxt at h; omega
theorem back {x c d : Nat} (h : c * d % 18446744073709551616 = 1) : x * c % 18446744073709551616 * d % 18446744073709551616 = x % 18446744073709551616 := by
  rw [Nat.mod_mul_mod, Nat.mul_assoc, Nat.mul_mod, h, Nat.mul_one, Nat.mod_mod]
theorem mixA_inj {a b : Nat} (ha : a < 18446744073709551616) (hb : b < 18446744073709551616) (h : mixA a = mixA b) : a = b := by
  have hinv : 13787848793156543929 * 10871156337175269513 % 18446744073709551616 = 1 := by decide
  have e : (a ^^^ a / 1073741824) * 13787848793156543929 % 18446744073709551616 * 10871156337175269513 % 18446744073709551616 = (b ^^^ b / 1073741824) * 13787848793156543929 % 18446744073709551616 * 10871156337175269513 % 18446744073709551616 := by
    have h' : (a ^^^ a / 1073741824) * 13787848793156543929 % 18446744073709551616 = (b ^^^ b / 1073741824) * 13787848793156543929 % 18446744073709551616 := h
    rw [h']
  have e1 := back (x := a ^^^ a / 1073741824) (c := 13787848793156543929) (d := 10871156337175269513) hinv
  have e2 := back (x := b ^^^ b / 1073741824) (c := 13787848793156543929) (d := 10871156337175269513) hinv
  have l1 := xor_lt ha (show a / 1073741824 < 18446744073709551616 by omega)
  have l2 := xor_lt hb (show b / 1073741824 < 18446744073709551616 by omega)
  have e3 : a ^^^ a / 1073741824 = b ^^^ b / 1073741824 := by
    have := (e1.symm.trans e).trans e2
    rw [Nat.mod_eq_of_lt l1, Nat.mod_eq_of_lt l2] at this
    exact this
  have hp : (1073741824 : Nat) = 2 ^ 30 := by decide
  rw [hp] at e3
  exact fold_inj 30 (by omega) e3
theorem mixB_inj {a b : Nat} (ha : a < 18446744073709551616) (hb : b < 18446744073709551616) (h : mixB a = mixB b) : a = b := by
  have hinv : 10723151780598845931 * 3573116690164977347 % 18446744073709551616 = 1 := by decide
  have e : (a ^^^ a / 134217728) * 10723151780598845931 % 18446744073709551616 * 3573116690164977347 % 18446744073709551616 = (b ^^^ b / 134217728) * 10723151780598845931 % 18446744073709551616 * 3573116690164977347 % 18446744073709551616 := by
    have h' : (a ^^^ a / 134217728) * 10723151780598845931 % 18446744073709551616 = (b ^^^ b / 134217728) * 10723151780598845931 % 18446744073709551616 := h
    rw [h']
  have e1 := back (x := a ^^^ a / 134217728) (c := 10723151780598845931) (d := 3573116690164977347) hinv
  have e2 := back (x := b ^^^ b / 134217728) (c := 10723151780598845931) (d := 3573116690164977347) hinv
  have l1 := xor_lt ha (show a / 134217728 < 18446744073709551616 by omega)
  have l2 := xor_lt hb (show b / 134217728 < 18446744073709551616 by omega)
  have e3 : a ^^^ a / 134217728 = b ^^^ b / 134217728 := by
    have := (e1.symm.trans e).trans e2
    rw [Nat.mod_eq_of_lt l1, Nat.mod_eq_of_lt l2] at this
    exact this
  have hp : (134217728 : Nat) = 2 ^ 27 := by decide
  rw [hp] at e3
  exact fold_inj 27 (by omega) e3
theorem mixC_inj {a b : Nat} (h : mixC a = mixC b) : a = b := by
  have e : a ^^^ a / 2147483648 = b ^^^ b / 2147483648 := h
  have hp : (2147483648 : Nat) = 2 ^ 31 := by decide
  rw [hp] at e
  exact fold_inj 31 (by omega) e
theorem num_inj {a b : Nat} (ha : a < 18446744073709551616) (hb : b < 18446744073709551616) (h : num a = num b) : a = b :=
  nxt_inj ha hb (mixA_inj (nxt_lt _) (nxt_lt _) (mixB_inj (mixA_lt _) (mixA_lt _) (mixC_inj h)))
/-- k steps -/
def steps (s : Nat) : Nat → Nat
  | 0 => s
  | k + 1 => nxt (steps s k)
theorem steps_eq {s : Nat} (h : s < 18446744073709551616) : ∀ k, steps s k = (s + k * 11400714819323198485) % 18446744073709551616
  | 0 => by show s = _; omega
  | k + 1 => by show nxt (steps s k) = _; rw [steps_eq h k]; unfold nxt; omega
theorem steps_lt {s : Nat} (h : s < 18446744073709551616) (k : Nat) : steps s k < 18446744073709551616 := by rw [steps_eq h]; exact Nat.mod_lt _ (by omega)
end Go.Proofs.YtgabgkgokmeaeaaGreat.Ra


/- What a reader of bits has taken is what came; what comes is taken: numbers of n bits, and small ones. -/
namespace Go.Proofs.YtgabgkgokmeaeaaGreat

namespace Bt
set_option linter.unusedVariables false
namespace Rd
/-- n bits were taken, and the reader has not failed -/
theorem take_ok {r : Rd} {n : Nat} (h : (r.take (n : Int)).fail = false) :
    r.fail = false ∧ n ≤ 64 ∧ n ≤ r.left ∧ r.take (n : Int) = ⟨r.l, r.at_ + n, false⟩ ∧ r.tell (n : Int) = val (r.rest.take n) ∧ r.tell (n : Int) < 2 ^ n ∧ r.rest = bits (r.tell (n : Int)) n ++ (r.take (n : Int)).rest := by
  have hc : r.can (n : Int) = true := by
    by_cases hc : r.can (n : Int) = true
    · exact hc
    · unfold take at h; rw [if_neg hc] at h; cases h
  obtain ⟨h1, _, h3, h4⟩ := can_iff.1 hc
  have e1 : r.take (n : Int) = ⟨r.l, r.at_ + n, false⟩ := by unfold take; rw [if_pos hc]; rfl
  have e2 : r.tell (n : Int) = val (r.rest.take n) := by unfold tell; rw [if_pos hc]; rfl
  have hl : (r.rest.take n).length = n := by rw [List.length_take, rest_length]; omega
  have hv := val_lt (r.rest.take n)
  rw [hl] at hv
  refine ⟨h1, by omega, by omega, e1, e2, by rw [e2]; exact hv, ?_⟩
  have hb := bits_val (r.rest.take n)
  rw [hl] at hb
  rw [e1, e2, hb]
  show r.rest = r.rest.take n ++ r.l.drop (r.at_ + n)
  rw [show r.l.drop (r.at_ + n) = r.rest.drop n by unfold rest; rw [List.drop_drop]]
  exact (List.take_append_drop n r.rest).symm
/-- the bits of a number come next -/
theorem take_bits {r : Rd} {x n : Nat} {t : List Bool} (hf : r.fail = false) (h : r.rest = bits x n ++ t) (hx : x < 2 ^ n) (hn : n ≤ 64) :
    r.tell (n : Int) = x ∧ r.take (n : Int) = ⟨r.l, r.at_ + n, false⟩ ∧ (r.take (n : Int)).rest = t := by
  have hl : n ≤ r.left := by rw [← rest_length, h, List.length_append, bits_length]; omega
  have hc : r.can (n : Int) = true := can_iff.2 ⟨hf, by omega, by omega, by omega⟩
  have e1 : r.take (n : Int) = ⟨r.l, r.at_ + n, false⟩ := by unfold take; rw [if_pos hc]; rfl
  have e2 : r.tell (n : Int) = val (r.rest.take n) := by unfold tell; rw [if_pos hc]; rfl
  have e3 : r.rest.take n = bits x n := by rw [h, List.take_append_of_le_length (by rw [bits_length]; omega), List.take_of_length_le (by rw [bits_length]; omega)]
  refine ⟨by rw [e2, e3, val_bits, Nat.mod_eq_of_lt hx], e1, ?_⟩
  rw [e1]
  show r.l.drop (r.at_ + n) = t
  rw [show r.l.drop (r.at_ + n) = r.rest.drop n by unfold rest; rw [List.drop_drop], h, List.drop_append_of_le_length (by rw [bits_length]; omega), List.drop_of_length_le (by rw [bits_length]; omega), List.nil_append]
theorem take_fail {r : Rd} (n : Int) (h : r.fail = true) : r.take n = ⟨r.l, r.at_, true⟩ ∧ r.tell n = 0 := by
  have hc : ¬ r.can n = true := by rw [can_iff, h]; simp
  unfold take tell
  rw [if_neg hc, if_neg hc]; exact ⟨rfl, rfl⟩
theorem take_l (r : Rd) (n : Int) : (r.take n).l = r.l := by unfold take; split <;> rfl
theorem fail_of {r : Rd} {n : Int} (h : (r.take n).fail = false) : r.fail = false := by
  cases hf : r.fail with
  | false => rfl
  | true => rw [(take_fail n hf).1] at h; cases h
/-- bits are laid on behind -/
def on (r : Rd) (s : List Bool) : Rd := ⟨r.l ++ s, r.at_, r.fail⟩
theorem take_on {r : Rd} {n : Nat} (s : List Bool) (h : (r.take (n : Int)).fail = false) : (r.on s).tell (n : Int) = r.tell (n : Int) ∧ (r.on s).take (n : Int) = (r.take (n : Int)).on s := by
  obtain ⟨h1, h2, h3, h4, h5, h6, h7⟩ := take_ok h
  have hl : r.at_ + n ≤ r.l.length ∨ n = 0 := by unfold left at h3; omega
  have hlon : n ≤ (r.on s).left := by unfold left on at *; simp; omega
  have hc : (r.on s).can (n : Int) = true := can_iff.2 ⟨h1, by omega, by omega, by omega⟩
  have e1 : (r.on s).take (n : Int) = ⟨r.l ++ s, r.at_ + n, false⟩ := by unfold take; rw [if_pos hc]; rfl
  have e2 : (r.on s).tell (n : Int) = val ((r.on s).rest.take n) := by unfold tell; rw [if_pos hc]; rfl
  refine ⟨?_, by rw [e1, h4]; rfl⟩
  rw [e2, h5]
  congr 1
  rcases hl with hl | hl
  · show ((r.l ++ s).drop r.at_).take n = (r.l.drop r.at_).take n
    rw [List.drop_append_of_le_length (by omega), List.take_append_of_le_length (by rw [List.length_drop]; omega)]
  · subst hl; simp
theorem sTake_bits {r : Rd} {x : Int} {t : List Bool} (hf : r.fail = false) (h : r.rest = sm (zig x) ++ t) (hx : zig x < 18446744073709551616) :
    r.sTell = x ∧ r.sTake = ⟨r.l, r.at_ + (sm (zig x)).length, false⟩ ∧ r.sTake.rest = t := by
  have hs := small_sm hx t
  rw [← h] at hs
  have e1 : r.sTell = x := by unfold sTell; rw [hf, hs]; rfl
  have e2 : r.sTake = ⟨r.l, r.at_ + (sm (zig x)).length, false⟩ := by unfold sTake; rw [hf, hs, sm_length]; rfl
  refine ⟨e1, e2, ?_⟩
  rw [e2]
  show r.l.drop (r.at_ + (sm (zig x)).length) = t
  rw [show r.l.drop (r.at_ + (sm (zig x)).length) = r.rest.drop (sm (zig x)).length by unfold rest; rw [List.drop_drop], h, List.drop_left]
theorem sfail_of {r : Rd} (h : r.sTake.fail = false) : r.fail = false := by
  cases hf : r.fail with
  | false => rfl
  | true => unfold sTake at h; rw [hf] at h; simp [hf] at h
theorem sTake_l (r : Rd) : r.sTake.l = r.l := by
  unfold sTake
  split
  · rfl
  · split <;> rfl
theorem zig_i64 {x : Int} (h : zig x < 18446744073709551616) : -9223372036854775808 ≤ x ∧ x < 9223372036854775808 := by
  unfold zig at h
  split at h <;> omega
theorem sTake_ok {r : Rd} (h : r.sTake.fail = false) : zig r.sTell < 18446744073709551616 ∧ r.rest = sm (zig r.sTell) ++ r.sTake.rest ∧ r.sTake = ⟨r.l, r.at_ + (sm (zig r.sTell)).length, false⟩ := by
  have hf := sfail_of h
  cases hs : small r.rest with
  | none => unfold sTake at h; rw [hf, hs] at h; cases h
  | some p =>
    obtain ⟨x, n⟩ := p
    obtain ⟨h1, _, t, ht⟩ := small_iff.1 hs
    obtain ⟨e1, e2, e3⟩ := sTake_bits hf ht h1
    rw [e1, e3]
    exact ⟨h1, ht, e2⟩
theorem sTell_i64 (r : Rd) : -9223372036854775808 ≤ r.sTell ∧ r.sTell < 9223372036854775808 := by
  unfold sTell
  split
  · omega
  · cases hs : small r.rest with
    | none => simp only; omega
    | some p =>
      obtain ⟨x, n⟩ := p
      exact zig_i64 (small_iff.1 hs).1
end Rd
end Bt
end Go.Proofs.YtgabgkgokmeaeaaGreat


/- Commands: formed ones, rows, their bits; what a reader takes of them. Plain functions, and their laws. -/
namespace Go.Proofs.YtgabgkgokmeaeaaGreat

namespace Cm
open Bt
set_option linter.unusedVariables false
/-- a command: its number, where to, whether it fires, what was seen -/
structure C where
  n : Nat
  x : Int
  y : Int
  f : Bool
  v : Nat
  q : Nat
def C.wf (c : C) : Prop := c.n < 4294967296 ∧ -128 ≤ c.x ∧ c.x < 128 ∧ -128 ≤ c.y ∧ c.y < 128 ∧ c.v < 4294967296 ∧ c.q < 256
abbrev Formed (c : C) : Prop := 1 ≤ c.n ∧ c.n ≤ 2147483648 ∧ -127 ≤ c.x ∧ -127 ≤ c.y ∧ c.v ≤ 2147483648 ∧ (c.f = true ∨ (c.v = 0 ∧ c.q = 0))
def first : List C → Nat
  | [] => 0
  | c :: _ => c.n
def rowFrom : Nat → List C → Bool
  | _, [] => true
  | m, c :: l => decide (Formed c) && decide (c.n = m) && rowFrom (m + 1) l
def row (l : List C) : Bool := decide (1 ≤ l.length) && decide (l.length ≤ 8) && rowFrom (first l) l
theorem rowFrom_iff : ∀ (l : List C) (m : Nat), rowFrom m l = true ↔ ∀ i c, l[i]? = some c → Formed c ∧ c.n = m + i
  | [], m => by simp [rowFrom]
  | c :: l, m => by
    rw [rowFrom, Bool.and_eq_true, Bool.and_eq_true, decide_eq_true_iff, decide_eq_true_iff, rowFrom_iff l]
    constructor
    · rintro ⟨⟨h1, h2⟩, h3⟩ i d hi
      cases i with
      | zero => simp at hi; subst hi; exact ⟨h1, by omega⟩
      | succ i =>
        have := h3 i d (by simpa using hi)
        exact ⟨this.1, by omega⟩
    · intro h
      refine ⟨⟨(h 0 c rfl).1, by have := (h 0 c rfl).2; omega⟩, ?_⟩
      intro i d hi
      have := h (i + 1) d (by simpa using hi)
      exact ⟨this.1, by omega⟩
theorem row_iff (l : List C) : row l = true ↔ 1 ≤ l.length ∧ l.length ≤ 8 ∧ ∀ i c, l[i]? = some c → Formed c ∧ c.n = first l + i := by
  unfold row
  rw [Bool.and_eq_true, Bool.and_eq_true, decide_eq_true_iff, decide_eq_true_iff, rowFrom_iff]
  exact and_assoc
theorem row_not {l : List C} {i : Nat} {c : C} (hi : l[i]? = some c) (h : ¬ (Formed c ∧ c.n = first l + i)) : row l = false := by
  cases hr : row l with
  | false => rfl
  | true => exact absurd (((row_iff l).1 hr).2.2 i c hi) h
theorem row_len {l : List C} (h : ¬ (1 ≤ l.length ∧ l.length ≤ 8)) : row l = false := by
  cases hr : row l with
  | false => rfl
  | true => have := (row_iff l).1 hr; omega

/-- a command's bits, behind the count and the first number; a row's -/
def one (c : C) : List Bool := Bt.bits (c.x + 127).toNat 8 ++ (Bt.bits (c.y + 127).toNat 8 ++ (if c.f then true :: (Bt.bits c.v 32 ++ Bt.bits c.q 8) else [false]))
def some_ (l : List C) : List Bool := l.flatMap one
def all (l : List C) : List Bool := Bt.bits (l.length - 1) 3 ++ (Bt.bits (first l) 32 ++ some_ l)
theorem one_length (c : C) : (one c).length = if c.f then 57 else 17 := by
  unfold one
  cases c.f <;> simp [Bt.bits_length]
theorem one_le (c : C) : (one c).length ≤ 57 := by rw [one_length]; split <;> omega
/-- how many Bt.bits commands have -/
def size : List C → Nat
  | [] => 0
  | c :: l => (if c.f then 57 else 17) + size l
theorem some_length : ∀ l : List C, (some_ l).length = size l
  | [] => rfl
  | c :: l => by
    show (one c ++ some_ l).length = _
    rw [List.length_append, one_length, some_length l]; rfl
theorem size_le : ∀ l : List C, size l ≤ 57 * l.length
  | [] => by simp [size]
  | c :: l => by
    have := size_le l
    show (if c.f then 57 else 17) + size l ≤ _
    rw [List.length_cons]
    split <;> omega
theorem all_length (l : List C) : (all l).length = 35 + size l := by
  unfold all
  rw [List.length_append, List.length_append, bits_length, bits_length, some_length]; omega
theorem some_snoc (l : List C) (c : C) : some_ (l ++ [c]) = some_ l ++ one c := by simp [some_]
theorem some_take {l : List C} {k : Nat} {c : C} (h : l[k]? = some c) : some_ (l.take (k + 1)) = some_ (l.take k) ++ one c := by
  rw [List.take_add_one, h]; exact some_snoc _ _
theorem size_take {l : List C} {k : Nat} {c : C} (h : l[k]? = some c) : size (l.take (k + 1)) = size (l.take k) + (if c.f then 57 else 17) := by
  have := congrArg List.length (some_take h)
  rwa [List.length_append, some_length, some_length, one_length] at this

/-- one command is taken, whatever comes -/
def rdOne (r : Rd) (m : Nat) : C × Rd :=
  let a := r.tell 8
  let b := (r.take 8).tell 8
  let r2 := (r.take 8).take 8
  let r3 := r2.take 1
  let x : Int := if a < 255 ∧ b < 255 then (a : Int) - 127 else 0
  let y : Int := if a < 255 ∧ b < 255 then (b : Int) - 127 else 0
  if r2.tell 1 = 1 then (⟨m, x, y, true, r3.tell 32, (r3.take 32).tell 8⟩, (r3.take 32).take 8) else (⟨m, x, y, false, 0, 0⟩, r3)
/-- k commands are taken -/
def rdN (r : Rd) (m : Nat) : Nat → List C × Rd
  | 0 => ([], r)
  | k + 1 => ((rdN r m k).1 ++ [(rdOne (rdN r m k).2 ((m + k) % 4294967296)).1], (rdOne (rdN r m k).2 ((m + k) % 4294967296)).2)
theorem rdN_length (r : Rd) (m : Nat) : ∀ k, (rdN r m k).1.length = k
  | 0 => rfl
  | k + 1 => by show ((rdN r m k).1 ++ [_]).length = k + 1; rw [List.length_append, rdN_length r m k]; rfl
/-- a formed command's Bt.bits come next: it is taken -/
theorem rdOne_in {r : Rd} {c : C} {t : List Bool} (hf : r.fail = false) (hw : c.wf) (hc : Formed c) (h : r.rest = one c ++ t) :
    rdOne r c.n = (c, ⟨r.l, r.at_ + (one c).length, false⟩) ∧ (⟨r.l, r.at_ + (one c).length, false⟩ : Rd).rest = t := by
  obtain ⟨n, x, y, f, v, q⟩ := c
  obtain ⟨_, h2, h3, h4, h5, h6, h7⟩ := hw
  obtain ⟨_, _, g3, g4, g5, g6⟩ := hc
  simp only at h2 h3 h4 h5 h6 h7 g3 g4 g5 g6
  unfold one at h
  simp only [List.append_assoc] at h
  obtain ⟨a1, a2, a3⟩ := Rd.take_bits (n := 8) hf h (by omega) (by omega)
  have f1 : (r.take ((8 : Nat) : Int)).fail = false := by rw [a2]
  obtain ⟨b1, b2, b3⟩ := Rd.take_bits (n := 8) f1 a3 (by omega) (by omega)
  have f2 : ((r.take ((8 : Nat) : Int)).take ((8 : Nat) : Int)).fail = false := by rw [b2]
  have ha : r.tell 8 = (x + 127).toNat := a1
  have hb : (r.take 8).tell 8 = (y + 127).toNat := b1
  have hlt : (x + 127).toNat < 255 ∧ (y + 127).toNat < 255 := by omega
  cases f with
  | true =>
    simp only [if_true] at b3
    have b3' : ((r.take ((8 : Nat) : Int)).take ((8 : Nat) : Int)).rest = Bt.bits 1 1 ++ (Bt.bits v 32 ++ (Bt.bits q 8 ++ t)) := by rw [b3]; simp [Bt.bits]
    obtain ⟨c1, c2, c3⟩ := Rd.take_bits (n := 1) f2 b3' (by omega) (by omega)
    have f3 : (((r.take ((8 : Nat) : Int)).take ((8 : Nat) : Int)).take ((1 : Nat) : Int)).fail = false := by rw [c2]
    obtain ⟨d1, d2, d3⟩ := Rd.take_bits (n := 32) f3 c3 (by omega) (by omega)
    have f4 : ((((r.take ((8 : Nat) : Int)).take ((8 : Nat) : Int)).take ((1 : Nat) : Int)).take ((32 : Nat) : Int)).fail = false := by rw [d2]
    obtain ⟨e1, e2, e3⟩ := Rd.take_bits (n := 8) f4 d3 (by omega) (by omega)
    have hfin : ((((r.take 8).take 8).take 1).take 32).take 8 = (⟨r.l, r.at_ + 57, false⟩ : Rd) := by
      have : ((((r.take ((8 : Nat) : Int)).take ((8 : Nat) : Int)).take ((1 : Nat) : Int)).take ((32 : Nat) : Int)).take ((8 : Nat) : Int) = (⟨r.l, r.at_ + 57, false⟩ : Rd) := by
        rw [e2, d2, c2, b2, a2]
      exact this
    have hl : (one ⟨n, x, y, true, v, q⟩).length = 57 := by rw [one_length]; rfl
    rw [hl]
    refine ⟨?_, ?_⟩
    · unfold rdOne
      rw [ha, hb]
      simp only
      have hc1 : ((r.take 8).take 8).tell 1 = 1 := c1
      rw [if_pos hlt, if_pos hlt, if_pos hc1, hfin]
      have hd : (((r.take 8).take 8).take 1).tell 32 = v := d1
      have he : ((((r.take 8).take 8).take 1).take 32).tell 8 = q := e1
      rw [hd, he]
      congr 2 <;> omega
    · rw [← hfin]; exact e3
  | false =>
    simp only [Bool.false_eq_true, if_false] at b3
    have b3' : ((r.take ((8 : Nat) : Int)).take ((8 : Nat) : Int)).rest = Bt.bits 0 1 ++ t := by rw [b3]; simp [Bt.bits]
    obtain ⟨c1, c2, c3⟩ := Rd.take_bits (n := 1) f2 b3' (by omega) (by omega)
    have hfin : ((r.take 8).take 8).take 1 = (⟨r.l, r.at_ + 17, false⟩ : Rd) := by
      have : ((r.take ((8 : Nat) : Int)).take ((8 : Nat) : Int)).take ((1 : Nat) : Int) = (⟨r.l, r.at_ + 17, false⟩ : Rd) := by rw [c2, b2, a2]
      exact this
    have hl : (one ⟨n, x, y, false, v, q⟩).length = 17 := by rw [one_length]; rfl
    have hvq : v = 0 ∧ q = 0 := by simpa using g6
    rw [hl]
    refine ⟨?_, ?_⟩
    · unfold rdOne
      rw [ha, hb]
      simp only
      have hc1 : ¬ ((r.take 8).take 8).tell 1 = 1 := by
        have : ((r.take 8).take 8).tell 1 = 0 := c1
        omega
      rw [if_pos hlt, if_pos hlt, if_neg hc1, hfin, hvq.1, hvq.2]
      congr 2 <;> omega
    · rw [← hfin]; exact c3

theorem tell_pow (r : Rd) (n : Nat) : r.tell (n : Int) < 2 ^ n := by
  unfold Rd.tell
  split
  · have := val_lt (r.rest.take ((n : Int)).toNat)
    refine Nat.lt_of_lt_of_le this (Nat.pow_le_pow_right (by omega) ?_)
    rw [List.length_take]; simp; omega
  · exact Nat.pow_pos (by omega)
theorem rdOne_fail {r : Rd} {m : Nat} (h : (rdOne r m).2.fail = false) : r.fail = false := by
  unfold rdOne at h
  simp only at h
  split at h
  · exact Rd.fail_of (Rd.fail_of (Rd.fail_of (Rd.fail_of (Rd.fail_of h))))
  · exact Rd.fail_of (Rd.fail_of (Rd.fail_of h))
theorem rdN_fail {r : Rd} {m : Nat} : ∀ {k : Nat}, (rdN r m k).2.fail = false → r.fail = false
  | 0, h => h
  | k + 1, h => rdN_fail (k := k) (rdOne_fail h)
theorem rdN_fail_le {r : Rd} {m : Nat} {j : Nat} : ∀ {k : Nat}, j ≤ k → (rdN r m k).2.fail = false → (rdN r m j).2.fail = false
  | 0, hj, h => by obtain rfl : j = 0 := by omega
                   exact h
  | k + 1, hj, h => by
    by_cases e : j = k + 1
    · subst e; exact h
    · exact rdN_fail_le (k := k) (by omega) (rdOne_fail h)
theorem rdOne_l (r : Rd) (m : Nat) : (rdOne r m).2.l = r.l := by
  unfold rdOne
  simp only
  split <;> simp only [Rd.take_l]
theorem rdN_l (r : Rd) (m : Nat) : ∀ k, (rdN r m k).2.l = r.l
  | 0 => rfl
  | k + 1 => (rdOne_l _ _).trans (rdN_l r m k)
theorem rdOne_rwf {r : Rd} {m : Nat} (h : r.wf) : (rdOne r m).2.wf := by
  unfold rdOne
  simp only
  split
  · exact Rd.take_wf (Rd.take_wf (Rd.take_wf (Rd.take_wf (Rd.take_wf h))))
  · exact Rd.take_wf (Rd.take_wf (Rd.take_wf h))
theorem rdN_rwf {r : Rd} {m : Nat} (h : r.wf) : ∀ k, (rdN r m k).2.wf
  | 0 => h
  | k + 1 => rdOne_rwf (rdN_rwf h k)
theorem rdOne_wf (r : Rd) (m : Nat) (hm : m < 4294967296) : (rdOne r m).1.wf := by
  have h0 := tell_pow r 8
  have h1 := tell_pow (r.take 8) 8
  have h2 := tell_pow (((r.take 8).take 8).take 1) 32
  have h3 := tell_pow ((((r.take 8).take 8).take 1).take 32) 8
  have e0 : r.tell 8 < 256 := h0
  have e1 : (r.take 8).tell 8 < 256 := h1
  have e2 : (((r.take 8).take 8).take 1).tell 32 < 4294967296 := h2
  have e3 : ((((r.take 8).take 8).take 1).take 32).tell 8 < 256 := h3
  unfold rdOne C.wf
  simp only
  split <;> refine ⟨hm, ?_⟩ <;> simp only <;> split <;> omega
theorem rdN_wf (r : Rd) (m : Nat) : ∀ k, ∀ c ∈ (rdN r m k).1, c.wf
  | 0 => by intro c hc; cases hc
  | k + 1 => by
    intro c hc
    rcases List.mem_append.1 (show c ∈ (rdN r m k).1 ++ [_] from hc) with hc | hc
    · exact rdN_wf r m k c hc
    · simp at hc; subst hc; exact rdOne_wf _ _ (Nat.mod_lt _ (by omega))
/-- commands' bits come next: they are taken -/
theorem rdN_in {r : Rd} {l : List C} {t : List Bool} {m : Nat} (hf : r.fail = false) (hw : ∀ c ∈ l, c.wf) (hr : ∀ i c, l[i]? = some c → Formed c ∧ c.n = m + i) (h : r.rest = some_ l ++ t) :
    ∀ k, k ≤ l.length → rdN r m k = (l.take k, ⟨r.l, r.at_ + size (l.take k), false⟩) ∧ (rdN r m k).2.rest = some_ (l.drop k) ++ t
  | 0, _ => ⟨by show ([], r) = _; rw [List.take_zero]; show _ = (([] : List C), (⟨r.l, r.at_ + 0, false⟩ : Rd)); rw [Nat.add_zero, ← hf], h⟩
  | k + 1, hk => by
    obtain ⟨e1, e2⟩ := rdN_in hf hw hr h k (by omega)
    obtain ⟨c, hc⟩ : ∃ c, l[k]? = some c := ⟨_, List.getElem?_eq_getElem (by omega)⟩
    obtain ⟨g1, g2⟩ := hr k c hc
    have hn : (m + k) % 4294967296 = c.n := by rw [← g2]; exact Nat.mod_eq_of_lt (by have := g1.2.1; omega)
    have hd : l.drop k = c :: l.drop (k + 1) := by
      have hkl : k < l.length := by omega
      rw [List.drop_eq_getElem_cons hkl]
      rw [List.getElem?_eq_getElem hkl] at hc
      simp at hc
      rw [hc]
    have e3 : (rdN r m k).2.rest = one c ++ (some_ (l.drop (k + 1)) ++ t) := by rw [e2, hd]; simp [some_]
    have hf2 : (rdN r m k).2.fail = false := by rw [e1]
    obtain ⟨g3, g4⟩ := rdOne_in hf2 (hw c (List.mem_of_getElem? hc)) g1 e3
    have hs : r.at_ + size (l.take k) + (one c).length = r.at_ + size (l.take (k + 1)) := by rw [size_take hc, one_length]; omega
    have e4 : rdOne (rdN r m k).2 ((m + k) % 4294967296) = (c, ⟨r.l, r.at_ + size (l.take (k + 1)), false⟩) := by
      rw [hn, g3, e1]
      show (c, (⟨r.l, r.at_ + size (l.take k) + (one c).length, false⟩ : Rd)) = _
      rw [hs]
    refine ⟨?_, ?_⟩
    · show ((rdN r m k).1 ++ [(rdOne (rdN r m k).2 ((m + k) % 4294967296)).1], (rdOne (rdN r m k).2 ((m + k) % 4294967296)).2) = _
      rw [e4, e1, List.take_add_one, hc]
      rfl
    · show (rdOne (rdN r m k).2 ((m + k) % 4294967296)).2.rest = _
      rw [hn, g3]
      exact g4

/-- a whole row is taken, whatever comes -/
def rdRow (r : Rd) : List C × Rd := rdN ((r.take 3).take 32) ((r.take 3).tell 32) (r.tell 3 + 1)
/-- the bits of the row l come next -/
def Next (r : Rd) (l : List C) : Prop := r.fail = false ∧ row l = true ∧ (∀ c ∈ l, c.wf) ∧ ∃ t, r.rest = all l ++ t
theorem first_le {l : List C} (h : row l = true) : first l ≤ 2147483648 := by
  obtain ⟨h1, _, h3⟩ := (row_iff l).1 h
  cases l with
  | nil => simp at h1
  | cons c l => exact (h3 0 c rfl).1.2.1
theorem next_head {r : Rd} {l : List C} (h : Next r l) : r.tell 3 + 1 = l.length ∧ (r.take 3).tell 32 = first l ∧ (r.take 3).take 32 = ⟨r.l, r.at_ + 35, false⟩ ∧ ∃ t, ((r.take 3).take 32).rest = some_ l ++ t ∧ r.rest = all l ++ t := by
  obtain ⟨hf, hr, hw, t, ht⟩ := h
  obtain ⟨h1, h2, h3⟩ := (row_iff l).1 hr
  have hfl := first_le hr
  have ht' := ht
  unfold all at ht'
  rw [List.append_assoc, List.append_assoc] at ht'
  obtain ⟨a1, a2, a3⟩ := Rd.take_bits (n := 3) hf ht' (by omega) (by omega)
  have f1 : (r.take ((3 : Nat) : Int)).fail = false := by rw [a2]
  obtain ⟨b1, b2, b3⟩ := Rd.take_bits (n := 32) f1 a3 (by omega) (by omega)
  have ha : r.tell 3 = l.length - 1 := a1
  refine ⟨by omega, b1, ?_, t, b3, ht⟩
  have : (r.take ((3 : Nat) : Int)).take ((32 : Nat) : Int) = (⟨r.l, r.at_ + 35, false⟩ : Rd) := by rw [b2, a2]
  exact this
theorem next_states {r : Rd} {l : List C} (h : Next r l) : ∀ k, k ≤ l.length → rdN ((r.take 3).take 32) ((r.take 3).tell 32) k = (l.take k, ⟨r.l, r.at_ + 35 + size (l.take k), false⟩) := by
  obtain ⟨h1, h2, h3, t, h4, h5⟩ := next_head h
  obtain ⟨hf, hr, hw, _⟩ := h
  have hrow := ((row_iff l).1 hr).2.2
  intro k hk
  have := (rdN_in (r := (r.take 3).take 32) (m := (r.take 3).tell 32) (by rw [h3]) hw (by rw [h2]; exact hrow) h4 k hk).1
  rw [this, h3]
theorem next_read {r : Rd} {l : List C} (h : Next r l) : rdRow r = (l, ⟨r.l, r.at_ + (all l).length, false⟩) := by
  have h1 := (next_head h).1
  unfold rdRow
  rw [h1, next_states h l.length (Nat.le_refl _), List.take_length, all_length, Nat.add_assoc]
theorem next_uniq {r : Rd} {l l' : List C} (h : Next r l) (h' : Next r l') : l = l' := by
  have := (next_read h).symm.trans (next_read h')
  exact congrArg Prod.fst this
theorem rdRow_fail {r : Rd} (h : (rdRow r).2.fail = false) : r.fail = false := Rd.fail_of (Rd.fail_of (rdN_fail h))
theorem rdRow_wf (r : Rd) : ∀ c ∈ (rdRow r).1, c.wf := rdN_wf _ _ _
theorem rdRow_length (r : Rd) : (rdRow r).1.length = r.tell 3 + 1 := rdN_length _ _ _
/-- what was read, put again, is what came: the row comes next -/
theorem next_of_put {r : Rd} (hf : (rdRow r).2.fail = false) (hr : row (rdRow r).1 = true) (hb : ∃ t, r.rest = all (rdRow r).1 ++ t) : Next r (rdRow r).1 :=
  ⟨rdRow_fail hf, hr, rdRow_wf r, hb⟩
end Cm
end Go.Proofs.YtgabgkgokmeaeaaGreat
