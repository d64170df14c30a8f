/- Joined: WdPlain, EntPlain2, EntMem, CmdPlain2, CmdMem, MapOpen, WdMem, WdAct, WdRow. -/
import Derived.Test.YtgabgkgokmeaeaaJ2
import Derived.Test.YtgabgkgokmeaeaaRows
import Derived.WalkSpells
import Derived.WalkSmall
import Derived.Laws.StructEq
import Derived.Lib.SmallJoins
import Derived.ChangeMaps5
import Derived.Laws.CopyRow
import Derived.Laws.IdiomCopy
import Derived.Deep.RegionLaw
/- The world, tick by tick, plain: who comes in, leaves, is hit, walks; a tick; and what stays so: entities formed, and all stand free. -/
namespace Go.Proofs.Ytgabgkgokmeaeaa.Wd
set_option linter.unusedVariables false

/-- a world -/
structure W where
  m : Ti.M
  st : Nat
  tick : Int
  l : List En.E
def zero : W := ⟨⟨0, 0, [], []⟩, 0, 0, []⟩
/-- the place at which one comes in -/
def place (m : Ti.M) (s : Nat) : Int × Int := (m.sp[Ra.num s % m.sp.length]?).getD (0, 0)
def came (m : Ti.M) (s : Nat) (id : Int) : En.E := ⟨id, 1, (place m s).1, (place m s).2, 0, 0, 100, 0⟩
def speed (s : Nat) : Int := ((Ra.num s % 32769 : Nat) : Int) - 16384
def ball (m : Ti.M) (s : Nat) (i : Nat) : En.E := ⟨9 + (i : Int), 2, (place m s).1, (place m s).2, speed (Ra.nxt s), speed (Ra.nxt (Ra.nxt s)), 100, 0⟩
/-- the first k balls -/
def balls (m : Ti.M) (s : Nat) : Nat → List En.E
  | 0 => []
  | k + 1 => balls m s k ++ [ball m (Ra.steps s (3 * k)) k]
def new (m : Ti.M) (s : Nat) (n : Nat) : W := ⟨m, Ra.steps s (3 * n), 0, balls m s n⟩
def newOk (m : Ti.M) (n : Int) : Bool := Ti.formedB m && (decide (0 ≤ n) && decide (n ≤ 8))
def newW (m : Ti.M) (s : Nat) (n : Int) : W := if newOk m n = true then new m s n.toNat else zero
def newE (m : Ti.M) (n : Int) : Int := if newOk m n = true then 0 else 1
/-- put in, where its ID stands -/
def ins (e : En.E) : List En.E → List En.E
  | [] => [e]
  | d :: l => if e.id < d.id then e :: d :: l else d :: ins e l
def has (l : List En.E) (id : Int) : Bool := l.any fun e => decide (e.id = id)
def joinE (w : W) (id : Int) : Int := if id < 1 ∨ 8 < id then 1 else if has w.l id = true then 10 else 0
def join (w : W) (id : Int) : W := if joinE w id = 0 then ⟨w.m, Ra.nxt w.st, w.tick, ins (came w.m w.st id) w.l⟩ else w
/-- whether it is player id -/
def isP (id : Int) (e : En.E) : Bool := decide (e.id = id) && decide (e.kind = 1)
def leaveE (w : W) (id : Int) : Int := if w.l.any (isP id) = true then 0 else 6
def leave (w : W) (id : Int) : W := ⟨w.m, w.st, w.tick, w.l.filter fun e => !isP id e⟩
/-- an entity behind a hit -/
def struck (e : En.E) (by_ : Int) : En.E := if by_ < e.h then ⟨e.id, e.kind, e.ax, e.ay, e.vx, e.vy, e.h - by_, e.t⟩ else ⟨e.id, e.kind, e.ax, e.ay, 0, 0, 0, 20⟩
def hit1 (id by_ : Int) (e : En.E) : En.E := if isP id e = true ∧ 0 < e.h then struck e by_ else e
def hit (w : W) (id by_ : Int) : W := if by_ < 1 then w else ⟨w.m, w.st, w.tick, w.l.map (hit1 id by_)⟩
def go1 (m : Ti.M) (c : Cm.C) (id : Int) (e : En.E) : En.E := if isP id e = true then Mv.walk m e c.x c.y else e
def go (w : W) (c : Cm.C) (id : Int) : W := if decide (Cm.Formed c) = true then ⟨w.m, w.st, w.tick, w.l.map (go1 w.m c id)⟩ else w
/-- whether a ball's box overlaps another one's -/
def meets (b e : En.E) : Bool := decide (b.kind = 2) && Bx.overlap (Fx.sub b.ax 24576) (Fx.sub b.ay 24576) (Fx.add b.ax 24576) (Fx.add b.ay 24576) (Fx.sub e.ax 24576) (Fx.sub e.ay 24576) (Fx.add e.ax 24576) (Fx.add e.ay 24576)
def hurt1 (e b : En.E) : En.E := if e.kind = 1 ∧ 0 < e.h ∧ meets b e = true then struck e 5 else e
def hurt (bs : List En.E) (e : En.E) : En.E := bs.foldl hurt1 e
/-- whether one waits, and for the last time -/
def waits (e : En.E) : Bool := decide (e.kind = 1) && decide (e.h = 0)
def back (m : Ti.M) : Nat → List En.E → List En.E
  | _, [] => []
  | s, e :: l => if waits e = true then (if e.t = 1 then came m s e.id :: back m (Ra.nxt s) l else ⟨e.id, e.kind, e.ax, e.ay, e.vx, e.vy, e.h, e.t - 1⟩ :: back m s l) else e :: back m s l
def backS : Nat → List En.E → Nat
  | s, [] => s
  | s, e :: l => if waits e = true ∧ e.t = 1 then backS (Ra.nxt s) l else backS s l
def rolled (w : W) : List En.E := w.l.map (Mv.roll w.m)
def hurts (w : W) : List En.E := (rolled w).map (hurt (rolled w))
def tick (w : W) : W := ⟨w.m, backS w.st (hurts w), w.tick + 1, back w.m w.st (hurts w)⟩

/-! ### lists -/
theorem rises_pw : ∀ (l : List En.E) (o : Option Int), En.rises o l = true ↔ (∀ e ∈ l, En.Formed e) ∧ l.Pairwise (fun a b => a.id < b.id) ∧ ∀ i, o = some i → ∀ e ∈ l, i < e.id
  | [], o => by simp [En.rises]
  | e :: l, o => by
    have e1 : En.rises o (e :: l) = (decide (En.Formed e) && (match o with | none => true | some i => decide (i < e.id)) && En.rises (some e.id) l) := by cases o <;> rfl
    rw [e1, Bool.and_eq_true, Bool.and_eq_true, rises_pw l (some e.id), decide_eq_true_iff, List.pairwise_cons]
    constructor
    · rintro ⟨⟨h1, h2⟩, h3, h4, h5⟩
      have h6 := h5 e.id rfl
      refine ⟨fun d hd => ?_, ⟨fun d hd => h6 d hd, h4⟩, ?_⟩
      · rcases List.mem_cons.1 hd with rfl | hd
        · exact h1
        · exact h3 d hd
      · intro i hi d hd
        subst hi
        have h2' : i < e.id := by simpa using h2
        rcases List.mem_cons.1 hd with rfl | hd
        · exact h2'
        · exact Int.lt_trans h2' (h6 d hd)
    · rintro ⟨h1, ⟨h2, h3⟩, h4⟩
      refine ⟨⟨h1 e (List.mem_cons_self ..), ?_⟩, fun d hd => h1 d (List.mem_cons_of_mem _ hd), h3, ?_⟩
      · cases o with
        | none => rfl
        | some i => simpa using h4 i rfl e (List.mem_cons_self ..)
      · rintro i hi d hd
        simp at hi
        subst hi
        exact h2 d hd
/-- a list, as what holds of its members -/
def Rise (l : List En.E) : Prop := l.Pairwise fun a b => a.id < b.id
theorem list_pw {l : List En.E} : En.list l = true ↔ (∀ e ∈ l, En.Formed e) ∧ Rise l := by
  unfold En.list
  rw [rises_pw]
  simp [Rise]
theorem Rise.map {l : List En.E} {f : En.E → En.E} (h : Rise l) (hf : ∀ e, (f e).id = e.id) : Rise (l.map f) := by
  unfold Rise at h ⊢
  rw [List.pairwise_map]
  simpa [hf] using h
theorem Rise.filter {l : List En.E} (p : En.E → Bool) (h : Rise l) : Rise (l.filter p) := List.Pairwise.filter p h
theorem mem_ins {e d : En.E} : ∀ {l : List En.E}, d ∈ ins e l ↔ d = e ∨ d ∈ l
  | [] => by simp [ins]
  | c :: l => by
    unfold ins
    split
    · simp
    · rw [List.mem_cons, mem_ins (l := l), List.mem_cons]
      constructor
      · rintro (h | h | h)
        · exact .inr (.inl h)
        · exact .inl h
        · exact .inr (.inr h)
      · rintro (h | h | h)
        · exact .inr (.inl h)
        · exact .inl h
        · exact .inr (.inr h)
theorem Rise.ins {e : En.E} : ∀ {l : List En.E}, Rise l → (∀ d ∈ l, d.id ≠ e.id) → Rise (ins e l)
  | [], _, _ => List.pairwise_singleton _ _
  | d :: l, h, hn => by
    have hc := List.pairwise_cons.1 h
    unfold Wd.ins
    split
    · rename_i hlt
      refine List.pairwise_cons.2 ⟨fun c hm => ?_, h⟩
      rcases List.mem_cons.1 hm with rfl | hm
      · exact hlt
      · exact Int.lt_trans hlt (hc.1 c hm)
    · rename_i hlt
      refine List.pairwise_cons.2 ⟨fun c hm => ?_, Rise.ins hc.2 fun c hm => hn c (List.mem_cons_of_mem _ hm)⟩
      have hne := hn d (List.mem_cons_self ..)
      rcases mem_ins.1 hm with rfl | hm
      · omega
      · exact hc.1 c hm
/-- IDs of a formed list: at most sixteen -/
theorem rise_len : ∀ {l : List En.E} {a : Int}, Rise l → (∀ e ∈ l, a ≤ e.id ∧ e.id ≤ 16) → a ≤ 17 → (l.length : Int) ≤ 17 - a
  | [], a, _, _, h => by simp; omega
  | e :: l, a, h, hb, ha => by
    have hc := List.pairwise_cons.1 h
    have h1 := hb e (List.mem_cons_self ..)
    have := rise_len (l := l) (a := e.id + 1) hc.2 (fun d hd => ⟨by have := hc.1 d hd; omega, (hb d (List.mem_cons_of_mem _ hd)).2⟩) (by omega)
    rw [List.length_cons]
    omega
theorem formed_id {e : En.E} (h : En.Formed e) : 1 ≤ e.id ∧ e.id ≤ 16 := by
  rcases h.1 with ⟨_, h1, h2, _⟩ | ⟨_, h1, h2, _⟩ <;> omega
theorem list_len {l : List En.E} (h : En.list l = true) : l.length ≤ 16 := by
  obtain ⟨h1, h2⟩ := list_pw.1 h
  have := rise_len h2 (fun e he => formed_id (h1 e he)) (a := 1) (by omega)
  omega

/-! ### spawns -/
theorem spawn_stands {m : Ti.M} (h : Ti.Formed m) {p : Int × Int} (hp : p ∈ m.sp) : Mv.stands m p.1 p.2 = true := by
  obtain ⟨⟨d1, d2, d3, d4, d5⟩, _, hs⟩ := id h
  rw [← hs, Ti.mem_spA] at hp
  obtain ⟨j, c, x, hc, hx, rfl⟩ := hp
  have hj : j < m.H.toNat := by
    have := (List.getElem?_eq_some_iff.1 hc).1
    simpa [Ti.linesOf] using this
  have hcc : c = Ti.lineOf m j := by
    have := (List.getElem?_eq_some_iff.1 hc).2
    rw [← this]
    simp [Ti.linesOf]
  subst hcc
  have hxw : x < m.W.toNat := by
    have := (List.getElem?_eq_some_iff.1 hx).1
    simpa [Ti.lineOf] using this
  have hcode : Ti.code m x j = 3 := by
    have := (List.getElem?_eq_some_iff.1 hx).2
    rw [← this]
    simp [Ti.lineOf]
  have hw : Ti.wall m x j = false := by
    cases hw : Ti.wall m x j with
    | false => rfl
    | true => rw [Ti.code_wall hw] at hcode; cases hcode
  have e1 : (Ti.mid x (0 + j)).1 = (x : Int) * 65536 + 32768 := by simp [Ti.mid]
  have e2 : (Ti.mid x (0 + j)).2 = (j : Int) * 65536 + 32768 := by simp [Ti.mid]
  rw [e1, e2]
  refine Mv.stands_of h ⟨by omega, by omega⟩ ⟨by omega, by omega⟩ ?_
  intro i k hi hk hwk ho
  obtain ⟨o1, o2, o3, o4⟩ := ho
  have o1' : (i : Int) * 65536 < (x : Int) * 65536 + 32768 + 24576 := o1
  have o2' : (x : Int) * 65536 + 32768 - 24576 < (i : Int) * 65536 + 65536 := o2
  have o3' : (k : Int) * 65536 < (j : Int) * 65536 + 32768 + 24576 := o3
  have o4' : (j : Int) * 65536 + 32768 - 24576 < (k : Int) * 65536 + 65536 := o4
  obtain rfl : i = x := by omega
  obtain rfl : k = j := by omega
  rw [hw] at hwk
  cases hwk
theorem place_mem {m : Ti.M} (h : Ti.Formed m) (s : Nat) : place m s ∈ m.sp := by
  have hn : 0 < m.sp.length := List.length_pos_iff.2 h.2.1
  have hl : Ra.num s % m.sp.length < m.sp.length := Nat.mod_lt _ hn
  unfold place
  rw [List.getElem?_eq_getElem hl]
  exact List.getElem_mem hl
theorem place_stands {m : Ti.M} (h : Ti.Formed m) (s : Nat) : Mv.stands m (place m s).1 (place m s).2 = true := spawn_stands h (place_mem h s)
theorem stands_may {m : Ti.M} {x y : Int} (h : Mv.stands m x y = true) : -134217728 ≤ x ∧ x ≤ 134217728 ∧ -134217728 ≤ y ∧ y ≤ 134217728 := by
  obtain ⟨h1, h2, _⟩ := Mv.stands_box h
  omega

/-! ### what stays so -/
/-- formed, and one stands there -/
def Good (m : Ti.M) (e : En.E) : Prop := En.Formed e ∧ Mv.stands m e.ax e.ay = true
structure Gd (w : W) : Prop where
  m : Ti.Formed w.m
  st : w.st < 18446744073709551616
  rise : Rise w.l
  good : ∀ e ∈ w.l, Good w.m e
  len : w.m.ws.length ≤ 1100 ∧ w.m.sp.length ≤ 1100
theorem Gd.list {w : W} (h : Gd w) : En.list w.l = true := list_pw.2 ⟨fun e he => (h.good e he).1, h.rise⟩
theorem Gd.short {w : W} (h : Gd w) : w.l.length ≤ 16 := list_len h.list
theorem came_good {m : Ti.M} (h : Ti.Formed m) (s : Nat) {id : Int} (h1 : 1 ≤ id) (h8 : id ≤ 8) : Good m (came m s id) := by
  have hs := place_stands h s
  refine ⟨⟨.inl ⟨rfl, h1, h8, .inl ⟨?_, rfl⟩⟩, stands_may hs, ?_, ?_⟩, hs⟩
  · show (0 : Int) < 100; omega
  · show (-65536 : Int) ≤ 0 ∧ (0 : Int) ≤ 65536 ∧ (-65536 : Int) ≤ 0 ∧ (0 : Int) ≤ 65536; omega
  · show (0 : Int) ≤ 100 ∧ (100 : Int) ≤ 100 ∧ (0 : Int) ≤ 0 ∧ (0 : Int) ≤ 20; omega
theorem speed_in (s : Nat) : -16384 ≤ speed s ∧ speed s ≤ 16384 := by unfold speed; omega
theorem ball_good {m : Ti.M} (h : Ti.Formed m) (s : Nat) {i : Nat} (hi : i < 8) : Good m (ball m s i) := by
  have hs := place_stands h s
  have v1 := speed_in (Ra.nxt s)
  have v2 := speed_in (Ra.nxt (Ra.nxt s))
  refine ⟨⟨.inr ⟨rfl, ?_, ?_, rfl, rfl⟩, stands_may hs, ?_, ?_⟩, hs⟩
  · show 9 ≤ 9 + (i : Int); omega
  · show 9 + (i : Int) ≤ 16; omega
  · show (-65536 : Int) ≤ speed (Ra.nxt s) ∧ speed (Ra.nxt s) ≤ 65536 ∧ (-65536 : Int) ≤ speed (Ra.nxt (Ra.nxt s)) ∧ speed (Ra.nxt (Ra.nxt s)) ≤ 65536; omega
  · show (0 : Int) ≤ 100 ∧ (100 : Int) ≤ 100 ∧ (0 : Int) ≤ 0 ∧ (0 : Int) ≤ 20; omega
theorem balls_len (m : Ti.M) (s : Nat) : ∀ k, (balls m s k).length = k
  | 0 => rfl
  | k + 1 => by show (balls m s k ++ [_]).length = _; rw [List.length_append, balls_len m s k]; rfl
theorem balls_id {m : Ti.M} {s : Nat} : ∀ {k : Nat} {e : En.E}, e ∈ balls m s k → e.id < 9 + (k : Int)
  | 0, e, h => by cases h
  | k + 1, e, h => by
    rcases List.mem_append.1 h with h | h
    · have := balls_id h; omega
    · simp at h; subst h; show 9 + (k : Int) < _; omega
theorem balls_rise (m : Ti.M) (s : Nat) : ∀ k, Rise (balls m s k)
  | 0 => List.Pairwise.nil
  | k + 1 => by
    refine List.pairwise_append.2 ⟨balls_rise m s k, List.pairwise_singleton _ _, fun a ha b hb => ?_⟩
    simp at hb
    subst hb
    exact balls_id ha
theorem balls_good {m : Ti.M} (h : Ti.Formed m) (s : Nat) : ∀ k, k ≤ 8 → ∀ e ∈ balls m s k, Good m e
  | 0, _, e, he => by cases he
  | k + 1, hk, e, he => by
    rcases List.mem_append.1 he with he | he
    · exact balls_good h s k (by omega) e he
    · simp at he; subst he; exact ball_good h _ (by omega)
theorem newOk_iff {m : Ti.M} {n : Int} : newOk m n = true ↔ Ti.Formed m ∧ 0 ≤ n ∧ n ≤ 8 := by
  unfold newOk
  rw [Bool.and_eq_true, Bool.and_eq_true, Ti.formedB_iff, decide_eq_true_iff, decide_eq_true_iff]
theorem gd_new {m : Ti.M} {s : Nat} {n : Int} (hs : s < 18446744073709551616) (hl : m.ws.length ≤ 1100 ∧ m.sp.length ≤ 1100) (h : newOk m n = true) : Gd (newW m s n) := by
  obtain ⟨h1, h2, h3⟩ := newOk_iff.1 h
  unfold newW
  rw [if_pos h]
  exact ⟨h1, Ra.steps_lt hs _, balls_rise m s _, balls_good h1 s _ (by omega), hl⟩
theorem has_iff {l : List En.E} {id : Int} : has l id = true ↔ ∃ e ∈ l, e.id = id := by unfold has; simp
theorem joinE_iff {w : W} {id : Int} : joinE w id = 0 ↔ 1 ≤ id ∧ id ≤ 8 ∧ ∀ e ∈ w.l, e.id ≠ id := by
  unfold joinE
  by_cases h1 : id < 1 ∨ 8 < id
  · rw [if_pos h1]; constructor
    · intro h; cases h
    · intro h; omega
  · rw [if_neg h1]
    by_cases h2 : has w.l id = true
    · rw [if_pos h2]; constructor
      · intro h; cases h
      · rintro ⟨_, _, h⟩
        obtain ⟨e, he, hi⟩ := has_iff.1 h2
        exact absurd hi (h e he)
    · rw [if_neg h2]; constructor
      · intro _
        exact ⟨by omega, by omega, fun e he hi => h2 (has_iff.2 ⟨e, he, hi⟩)⟩
      · intro _; rfl
theorem gd_join {w : W} (h : Gd w) (id : Int) : Gd (join w id) := by
  unfold join
  split
  · rename_i hj
    obtain ⟨h1, h8, hn⟩ := joinE_iff.1 hj
    refine ⟨h.m, Ra.nxt_lt _, h.rise.ins fun d hd => hn d hd, fun e he => ?_, h.len⟩
    rcases mem_ins.1 he with rfl | he
    · exact came_good h.m _ h1 h8
    · exact h.good e he
  · exact h
theorem gd_leave {w : W} (h : Gd w) (id : Int) : Gd (leave w id) :=
  ⟨h.m, h.st, h.rise.filter _, fun e he => h.good e (List.mem_filter.1 he).1, h.len⟩
/-- a map that keeps IDs, and what is good -/
theorem gd_map {w : W} (h : Gd w) {f : En.E → En.E} (hf : ∀ e, (f e).id = e.id) (hg : ∀ e, Good w.m e → Good w.m (f e)) : Gd ⟨w.m, w.st, w.tick, w.l.map f⟩ :=
  ⟨h.m, h.st, h.rise.map hf, fun e he => by
    obtain ⟨d, hd, rfl⟩ := List.mem_map.1 he
    exact hg d (h.good d hd), h.len⟩
theorem struck_id (e : En.E) (b : Int) : (struck e b).id = e.id ∧ (struck e b).kind = e.kind ∧ (struck e b).ax = e.ax ∧ (struck e b).ay = e.ay := by unfold struck; split <;> exact ⟨rfl, rfl, rfl, rfl⟩
theorem struck_good {m : Ti.M} {e : En.E} {b : Int} (h : Good m e) (hb : 1 ≤ b) (hk : e.kind = 1) (hh : 0 < e.h) : Good m (struck e b) := by
  obtain ⟨⟨h1, h2, h3, h4, h5, h6, h7⟩, hs⟩ := h
  unfold struck
  rcases h1 with ⟨_, i1, i2, i3⟩ | ⟨k2, _⟩
  · split
    · rename_i hlt
      refine ⟨⟨.inl ⟨hk, i1, i2, .inl ⟨?_, ?_⟩⟩, h2, h3, ?_⟩, hs⟩
      · show 0 < e.h - b; omega
      · show e.t = 0; omega
      · show 0 ≤ e.h - b ∧ e.h - b ≤ 100 ∧ 0 ≤ e.t ∧ e.t ≤ 20; omega
    · refine ⟨⟨.inl ⟨hk, i1, i2, .inr ⟨rfl, ?_⟩⟩, h2, ?_, ?_⟩, hs⟩
      · show (0 : Int) < 20; omega
      · show (-65536 : Int) ≤ 0 ∧ (0 : Int) ≤ 65536 ∧ (-65536 : Int) ≤ 0 ∧ (0 : Int) ≤ 65536; omega
      · show (0 : Int) ≤ 0 ∧ (0 : Int) ≤ 100 ∧ (0 : Int) ≤ 20 ∧ (20 : Int) ≤ 20; omega
  · omega
theorem isP_iff {id : Int} {e : En.E} : isP id e = true ↔ e.id = id ∧ e.kind = 1 := by
  unfold isP
  rw [Bool.and_eq_true, decide_eq_true_iff, decide_eq_true_iff]
theorem hit1_id (id b : Int) (e : En.E) : (hit1 id b e).id = e.id ∧ (hit1 id b e).kind = e.kind := by
  unfold hit1; split
  · exact ⟨(struck_id e b).1, (struck_id e b).2.1⟩
  · exact ⟨rfl, rfl⟩
theorem gd_hit {w : W} (h : Gd w) (id b : Int) : Gd (hit w id b) := by
  unfold hit
  split
  · exact h
  · rename_i hb
    refine gd_map h (fun e => (hit1_id id b e).1) fun e he => ?_
    unfold hit1
    split
    · rename_i hc
      exact struck_good he (by omega) (isP_iff.1 hc.1).2 hc.2
    · exact he
theorem walk_id (m : Ti.M) (e : En.E) (x y : Int) : (Mv.walk m e x y).id = e.id ∧ (Mv.walk m e x y).kind = e.kind ∧ (Mv.walk m e x y).h = e.h ∧ (Mv.walk m e x y).t = e.t := by
  unfold Mv.walk; split <;> exact ⟨rfl, rfl, rfl, rfl⟩
theorem walk_good {m : Ti.M} {e : En.E} {x y : Int} (h : Good m e) (hx : -128 ≤ x ∧ x ≤ 127) (hy : -128 ≤ y ∧ y ≤ 127) : Good m (Mv.walk m e x y) := by
  have hf := (Mv.walk_free (m := m) (e := e) h.2 hx hy).1
  refine ⟨?_, hf⟩
  unfold Mv.walk at hf ⊢
  split
  · rename_i hw
    rw [if_pos hw] at hf
    obtain ⟨hfe, _, _, n1, n2⟩ := Mv.walks_iff.1 hw
    have d1 := Mv.down_in (n := x) (by omega) (by omega)
    have d2 := Mv.down_in (n := y) (by omega) (by omega)
    refine ⟨hfe.1, stands_may hf, ?_, hfe.2.2.2⟩
    show -65536 ≤ Mv.down (x * 16384) ∧ Mv.down (x * 16384) ≤ 65536 ∧ -65536 ≤ Mv.down (y * 16384) ∧ Mv.down (y * 16384) ≤ 65536
    omega
  · exact h.1
theorem go1_id (m : Ti.M) (c : Cm.C) (id : Int) (e : En.E) : (go1 m c id e).id = e.id ∧ (go1 m c id e).kind = e.kind := by
  unfold go1; split
  · exact ⟨(walk_id m e c.x c.y).1, (walk_id m e c.x c.y).2.1⟩
  · exact ⟨rfl, rfl⟩
theorem gd_go {w : W} (h : Gd w) {c : Cm.C} (hc : c.wf) (id : Int) : Gd (go w c id) := by
  unfold go
  split
  · refine gd_map h (fun e => (go1_id w.m c id e).1) fun e he => ?_
    unfold go1
    obtain ⟨_, x1, x2, y1, y2, _⟩ := hc
    split
    · exact walk_good he (by omega) (by omega)
    · exact he
  · exact h
theorem roll_id (m : Ti.M) (e : En.E) : (Mv.roll m e).id = e.id ∧ (Mv.roll m e).kind = e.kind ∧ (Mv.roll m e).h = e.h ∧ (Mv.roll m e).t = e.t ∧ (e.kind = 1 → Mv.roll m e = e) := by
  unfold Mv.roll
  split
  · rename_i h
    refine ⟨rfl, rfl, rfl, rfl, fun hk => ?_⟩
    have := (Mv.rolls_iff.1 h).2
    omega
  · exact ⟨rfl, rfl, rfl, rfl, fun _ => rfl⟩
theorem roll_good {m : Ti.M} {e : En.E} (h : Good m e) : Good m (Mv.roll m e) := by
  have hf := (Mv.roll_free (m := m) (e := e) h.2).1
  refine ⟨?_, hf⟩
  unfold Mv.roll at hf ⊢
  split
  · rename_i hw
    rw [if_pos hw] at hf
    obtain ⟨hfe, _⟩ := Mv.rolls_iff.1 hw
    obtain ⟨v1, v2, v3, v4⟩ := hfe.2.2.1
    refine ⟨hfe.1, stands_may hf, ?_, hfe.2.2.2⟩
    show -65536 ≤ Mv.turnX m e.ax e.ay e.vx ∧ Mv.turnX m e.ax e.ay e.vx ≤ 65536 ∧ -65536 ≤ Mv.turnY m (Mv.goX m e.ax e.ay e.vx) e.ay e.vy ∧ Mv.turnY m (Mv.goX m e.ax e.ay e.vx) e.ay e.vy ≤ 65536
    unfold Mv.turnX Mv.turnY
    split <;> split <;> omega
  · exact h.1
theorem hurt1_id (e b : En.E) : (hurt1 e b).id = e.id ∧ (hurt1 e b).kind = e.kind ∧ (hurt1 e b).ax = e.ax ∧ (hurt1 e b).ay = e.ay := by
  unfold hurt1; split
  · exact struck_id e 5
  · exact ⟨rfl, rfl, rfl, rfl⟩
theorem hurt1_good {m : Ti.M} {e b : En.E} (h : Good m e) : Good m (hurt1 e b) := by
  unfold hurt1
  split
  · rename_i hc; exact struck_good h (by omega) hc.1 hc.2.1
  · exact h
theorem hurt_id : ∀ (bs : List En.E) (e : En.E), (hurt bs e).id = e.id ∧ (hurt bs e).kind = e.kind ∧ (hurt bs e).ax = e.ax ∧ (hurt bs e).ay = e.ay
  | [], e => ⟨rfl, rfl, rfl, rfl⟩
  | b :: bs, e => by
    have h1 := hurt_id bs (hurt1 e b)
    have h2 := hurt1_id e b
    exact ⟨h1.1.trans h2.1, h1.2.1.trans h2.2.1, h1.2.2.1.trans h2.2.2.1, h1.2.2.2.trans h2.2.2.2⟩
theorem hurt_good {m : Ti.M} : ∀ (bs : List En.E) (e : En.E), Good m e → Good m (hurt bs e)
  | [], e, h => h
  | b :: bs, e, h => hurt_good bs (hurt1 e b) (hurt1_good h)
theorem back_len {m : Ti.M} : ∀ {l : List En.E} {s : Nat}, (back m s l).length = l.length
  | [], s => rfl
  | e :: l, s => by
    unfold back
    split
    · split <;> (rw [List.length_cons, List.length_cons, back_len])
    · rw [List.length_cons, List.length_cons, back_len]
theorem backS_lt : ∀ {l : List En.E} {s : Nat}, s < 18446744073709551616 → backS s l < 18446744073709551616
  | [], s, h => h
  | e :: l, s, h => by
    unfold backS
    split
    · exact backS_lt (Ra.nxt_lt s)
    · exact backS_lt h
/-- what one is behind the waiting -/
def waited (m : Ti.M) (e d : En.E) : Prop := (waits e = false ∧ d = e) ∨ (waits e = true ∧ e.t = 1 ∧ ∃ s, d = came m s e.id) ∨ (waits e = true ∧ e.t ≠ 1 ∧ d = ⟨e.id, e.kind, e.ax, e.ay, e.vx, e.vy, e.h, e.t - 1⟩)
theorem back_at {m : Ti.M} : ∀ {l : List En.E} {s k : Nat} {e : En.E}, l[k]? = some e → ∃ d, (back m s l)[k]? = some d ∧ waited m e d
  | [], s, k, e, h => by simp at h
  | c :: l, s, 0, e, h => by
    simp at h
    subst h
    unfold back
    cases hw : waits c with
    | false => exact ⟨c, by simp, .inl ⟨hw, rfl⟩⟩
    | true =>
      by_cases ht : c.t = 1
      · exact ⟨came m s c.id, by simp [ht], .inr (.inl ⟨hw, ht, s, rfl⟩)⟩
      · exact ⟨_, by simp [ht], .inr (.inr ⟨hw, ht, rfl⟩)⟩
  | c :: l, s, k + 1, e, h => by
    have h' : l[k]? = some e := by simpa using h
    unfold back
    split
    · split
      · rw [List.getElem?_cons_succ]; exact back_at h'
      · rw [List.getElem?_cons_succ]; exact back_at h'
    · rw [List.getElem?_cons_succ]; exact back_at h'
theorem waits_iff {e : En.E} : waits e = true ↔ e.kind = 1 ∧ e.h = 0 := by
  unfold waits
  rw [Bool.and_eq_true, decide_eq_true_iff, decide_eq_true_iff]
theorem waited_good {m : Ti.M} (hm : Ti.Formed m) {e d : En.E} (h : Good m e) (hw : waited m e d) : Good m d := by
  rcases hw with ⟨_, rfl⟩ | ⟨hw, ht, s, rfl⟩ | ⟨hw, ht, rfl⟩
  · exact h
  · obtain ⟨hk, hh⟩ := waits_iff.1 hw
    rcases h.1.1 with ⟨_, i1, i2, _⟩ | ⟨k2, _⟩
    · exact came_good hm s i1 i2
    · omega
  · obtain ⟨hk, hh⟩ := waits_iff.1 hw
    obtain ⟨⟨h1, h2, h3, h4, h5, h6, h7⟩, hs⟩ := h
    rcases h1 with ⟨_, i1, i2, i3⟩ | ⟨k2, _⟩
    · refine ⟨⟨.inl ⟨hk, i1, i2, .inr ⟨hh, ?_⟩⟩, h2, h3, ?_⟩, hs⟩
      · show 0 < e.t - 1; omega
      · show 0 ≤ e.h ∧ e.h ≤ 100 ∧ 0 ≤ e.t - 1 ∧ e.t - 1 ≤ 20; omega
    · omega
theorem waited_id {m : Ti.M} {e d : En.E} (hw : waited m e d) : d.id = e.id ∧ d.kind = e.kind := by
  rcases hw with ⟨_, rfl⟩ | ⟨hw, ht, s, rfl⟩ | ⟨hw, ht, rfl⟩
  · exact ⟨rfl, rfl⟩
  · exact ⟨rfl, (waits_iff.1 hw).1.symm⟩
  · exact ⟨rfl, rfl⟩
theorem back_mem {m : Ti.M} {l : List En.E} {s : Nat} {d : En.E} (h : d ∈ back m s l) : ∃ e ∈ l, waited m e d := by
  obtain ⟨k, hk, hd⟩ := List.mem_iff_getElem.1 h
  have hkl : k < l.length := by rw [back_len] at hk; exact hk
  obtain ⟨d', h1, h2⟩ := back_at (m := m) (s := s) (List.getElem?_eq_getElem hkl)
  rw [List.getElem?_eq_getElem hk, hd] at h1
  simp at h1
  subst h1
  exact ⟨_, List.getElem_mem hkl, h2⟩
theorem back_rise {m : Ti.M} {l : List En.E} {s : Nat} (h : Rise l) : Rise (back m s l) := by
  unfold Rise at h ⊢
  rw [List.pairwise_iff_getElem] at h ⊢
  intro i j hi hj hij
  rw [back_len] at hi hj
  obtain ⟨a, a1, a2⟩ := back_at (m := m) (s := s) (List.getElem?_eq_getElem hi)
  obtain ⟨b, b1, b2⟩ := back_at (m := m) (s := s) (List.getElem?_eq_getElem hj)
  have e1 := (List.getElem?_eq_some_iff.1 a1).2
  have e2 := (List.getElem?_eq_some_iff.1 b1).2
  rw [e1, e2, (waited_id a2).1, (waited_id b2).1]
  exact h i j hi hj hij
theorem gd_tick {w : W} (h : Gd w) : Gd (tick w) := by
  have hr : Rise (hurts w) := (h.rise.map fun e => (roll_id w.m e).1).map fun e => (hurt_id _ e).1
  refine ⟨h.m, backS_lt h.st, back_rise hr, fun d hd => ?_, h.len⟩
  obtain ⟨e, he, hw⟩ := back_mem hd
  obtain ⟨c, hc, rfl⟩ := List.mem_map.1 he
  obtain ⟨b, hb, rfl⟩ := List.mem_map.1 hc
  exact waited_good h.m (hurt_good _ _ (roll_good (h.good b hb))) hw
theorem tick_len (w : W) : (tick w).l.length = w.l.length := by
  show (back w.m w.st (hurts w)).length = _
  rw [back_len]
  simp [hurts, rolled]
theorem struck_h {e : En.E} {b : Int} (hb : 1 ≤ b) (hh : 0 ≤ e.h) : (struck e b).h ≤ e.h := by unfold struck; split <;> (simp; omega)
theorem hurt_h : ∀ (bs : List En.E) (e : En.E), 0 ≤ e.h → (hurt bs e).h ≤ e.h ∧ (e.kind ≠ 1 → hurt bs e = e) ∧ (e.h = 0 → hurt bs e = e)
  | [], e, _ => ⟨Int.le_refl _, fun _ => rfl, fun _ => rfl⟩
  | b :: bs, e, hh => by
    have h0 : 0 ≤ (hurt1 e b).h := by
      unfold hurt1 struck
      split
      · split
        · show 0 ≤ e.h - 5; omega
        · show (0 : Int) ≤ 0; omega
      · exact hh
    have h1 : (hurt1 e b).h ≤ e.h := by
      unfold hurt1
      split
      · exact struck_h (by omega) hh
      · exact Int.le_refl _
    obtain ⟨i1, i2, i3⟩ := hurt_h bs (hurt1 e b) h0
    refine ⟨Int.le_trans i1 h1, fun hk => ?_, fun hz => ?_⟩
    · have e1 : hurt1 e b = e := by unfold hurt1; rw [if_neg (fun h => hk h.1)]
      show hurt bs (hurt1 e b) = e
      rw [i2 (by rw [e1]; exact hk), e1]
    · have e1 : hurt1 e b = e := by unfold hurt1; rw [if_neg (fun h => by omega)]
      show hurt bs (hurt1 e b) = e
      rw [i3 (by rw [e1]; exact hz), e1]
/-- what a tick makes of each: the same ID and kind; no greater health, but of who comes in; and who lives on stands where it stood -/
theorem tick_at {w : W} (h : Gd w) {k : Nat} {a : En.E} (ha : w.l[k]? = some a) :
    ∃ b, (tick w).l[k]? = some b ∧ b.id = a.id ∧ b.kind = a.kind ∧ (b.h ≤ a.h ∨ (a.h = 0 ∧ a.t = 1 ∧ b.h = 100)) ∧ (a.kind = 1 → 0 < a.h → 0 < b.h → b.ax = a.ax ∧ b.ay = a.ay) := by
  have hg := h.good a (List.mem_of_getElem? ha)
  have h2 : (hurts w)[k]? = some (hurt (rolled w) (Mv.roll w.m a)) := by
    unfold hurts
    rw [List.getElem?_map]
    have : (rolled w)[k]? = some (Mv.roll w.m a) := by unfold rolled; rw [List.getElem?_map, ha]; rfl
    rw [this]; rfl
  obtain ⟨b, hb, hw⟩ := back_at (m := w.m) (s := w.st) h2
  obtain ⟨r1, r2, r3, r4, r5⟩ := roll_id w.m a
  obtain ⟨u1, u2, u3, u4⟩ := hurt_id (rolled w) (Mv.roll w.m a)
  have hh0 : 0 ≤ a.h := hg.1.2.2.2.1
  obtain ⟨v1, v2, v3⟩ := hurt_h (rolled w) (Mv.roll w.m a) (by rw [r3]; exact hh0)
  have hid := waited_id hw
  refine ⟨b, hb, by rw [hid.1, u1, r1], by rw [hid.2, u2, r2], ?_, fun hk h0 hbh => ?_⟩
  · rcases hw with ⟨_, rfl⟩ | ⟨hw, ht, s, rfl⟩ | ⟨hw, ht, rfl⟩
    · exact .inl (by rw [r3] at v1; exact v1)
    · obtain ⟨wk, wh⟩ := waits_iff.1 hw
      have hkk : a.kind = 1 := by rw [← r2, ← u2]; exact wk
      have hra := r5 hkk
      by_cases hz : a.h = 0
      · have := v3 (by rw [r3]; exact hz)
        rw [this, hra] at ht
        exact .inr ⟨hz, ht, rfl⟩
      · exfalso
        -- a dead one of this tick waits twenty
        have hgood := hurt_good (m := w.m) (rolled w) (Mv.roll w.m a) (roll_good hg)
        have hd : ∀ (bs : List En.E) (e : En.E), e.kind = 1 → (0 < e.h ∧ e.t = 0) ∨ (e.h = 0 ∧ e.t = 20) → (0 < (hurt bs e).h ∧ (hurt bs e).t = 0) ∨ ((hurt bs e).h = 0 ∧ (hurt bs e).t = 20) := by
          intro bs
          induction bs with
          | nil => intro e _ h; exact h
          | cons c bs ih =>
            intro e hk h
            refine ih (hurt1 e c) (by rw [(hurt1_id e c).2.1]; exact hk) ?_
            unfold hurt1 struck
            split
            · split
              · rename_i hlt
                left
                rcases h with h | h
                · exact ⟨by show 0 < e.h - 5; omega, h.2⟩
                · omega
              · exact .inr ⟨rfl, rfl⟩
            · exact h
        have ht0 : a.t = 0 := by
          rcases hg.1.1 with ⟨_, _, _, h | h⟩ | ⟨k2, _⟩
          · exact h.2
          · omega
          · omega
        rcases hd (rolled w) (Mv.roll w.m a) (by rw [r2]; exact hkk) (.inl ⟨by rw [r3]; omega, by rw [r4]; exact ht0⟩) with h | h <;> omega
    · left
      obtain ⟨wk, wh⟩ := waits_iff.1 hw
      show (hurt (rolled w) (Mv.roll w.m a)).h ≤ a.h
      rw [r3] at v1; exact v1
  · have hra := r5 hk
    rcases hw with ⟨_, rfl⟩ | ⟨hw, ht, s, rfl⟩ | ⟨hw, ht, rfl⟩
    · rw [u3, u4, hra]; exact ⟨rfl, rfl⟩
    · exfalso
      obtain ⟨wk, wh⟩ := waits_iff.1 hw
      have hd : ∀ (bs : List En.E) (e : En.E), e.kind = 1 → (0 < e.h ∧ e.t = 0) ∨ (e.h = 0 ∧ e.t = 20) → (0 < (hurt bs e).h ∧ (hurt bs e).t = 0) ∨ ((hurt bs e).h = 0 ∧ (hurt bs e).t = 20) := by
        intro bs
        induction bs with
        | nil => intro e _ h; exact h
        | cons c bs ih =>
          intro e hk h
          refine ih (hurt1 e c) (by rw [(hurt1_id e c).2.1]; exact hk) ?_
          unfold hurt1 struck
          split
          · split
            · rename_i hlt
              left
              rcases h with h | h
              · exact ⟨by show 0 < e.h - 5; omega, h.2⟩
              · omega
            · exact .inr ⟨rfl, rfl⟩
          · exact h
      have ht0 : a.t = 0 := by
        rcases hg.1.1 with ⟨_, _, _, h | h⟩ | ⟨k2, _⟩
        · exact h.2
        · omega
        · omega
      rcases hd (rolled w) (Mv.roll w.m a) (by rw [r2]; exact hk) (.inl ⟨by rw [r3]; omega, by rw [r4]; exact ht0⟩) with h | h <;> omega
    · exact ⟨u3.trans (congrArg En.E.ax hra), u4.trans (congrArg En.E.ay hra)⟩
/-- a hit, and a walk, are nothing to the others -/
theorem hit_at (w : W) (id b : Int) : (hit w id b).st = w.st ∧ (hit w id b).tick = w.tick ∧ (hit w id b).l.length = w.l.length ∧ ∀ (k : Nat) (a : En.E), w.l[k]? = some a → ∃ d, (hit w id b).l[k]? = some d ∧ (d = a ∨ (d.id = id ∧ d.kind = 1)) := by
  unfold hit
  split
  · exact ⟨rfl, rfl, rfl, fun k a h => ⟨a, h, .inl rfl⟩⟩
  · refine ⟨rfl, rfl, by simp, fun k a h => ⟨hit1 id b a, by simp [h], ?_⟩⟩
    unfold hit1
    split
    · rename_i hc
      right
      rw [(struck_id a b).1, (struck_id a b).2.1]
      exact isP_iff.1 hc.1
    · exact .inl rfl
theorem go_at (w : W) (c : Cm.C) (id : Int) : (go w c id).st = w.st ∧ (go w c id).tick = w.tick ∧ (go w c id).l.length = w.l.length ∧ ∀ (k : Nat) (a : En.E), w.l[k]? = some a → ∃ d, (go w c id).l[k]? = some d ∧ (d = a ∨ (d.id = id ∧ d.kind = 1)) := by
  unfold go
  split
  · refine ⟨rfl, rfl, by simp, fun k a h => ⟨go1 w.m c id a, by simp [h], ?_⟩⟩
    unfold go1
    split
    · rename_i hc
      right
      rw [(walk_id w.m a c.x c.y).1, (walk_id w.m a c.x c.y).2.1]
      exact isP_iff.1 hc
    · exact .inl rfl
  · exact ⟨rfl, rfl, rfl, fun k a h => ⟨a, h, .inl rfl⟩⟩
end Go.Proofs.Ytgabgkgokmeaeaa.Wd


/- Entities: what a reader takes, on a base: what comes is taken, what was taken came. -/
namespace Go.Proofs.Ytgabgkgokmeaeaa.En
open Bt Go.RowKit
set_option linter.unusedVariables false

/-- behind k flags; the flag i -/
def rdF (r : Rd) : Nat → Rd
  | 0 => r
  | k + 1 => (rdF r k).take 1
def fl (r : Rd) (i : Nat) : Bool := (rdF r i).tell 1 == 1
/-- a field is taken, where it is told to be another one; none, if it isn't -/
def step (f : Bool) (k : Nat) (s : E × Rd) : Option (E × Rd) :=
  if f then (if s.2.sTell = 0 then none else some (put s.1 k (wrap64 (field s.1 k + s.2.sTell)), s.2.sTake)) else some s
/-- behind k fields -/
def rdS (r : Rd) (b : E) : Nat → Option (E × Rd)
  | 0 => some (b, rdF r 6)
  | k + 1 => (rdS r b k).bind (step (fl r k) k)
/-- the bits of the entity e come next, on the base b -/
def Next (r : Rd) (b e : E) : Prop := r.fail = false ∧ Formed e ∧ b.id = e.id ∧ b.kind = e.kind ∧ ∃ t, r.rest = all b e ++ t

theorem rdF_l (r : Rd) : ∀ k, (rdF r k).l = r.l
  | 0 => rfl
  | k + 1 => (Rd.take_l _ _).trans (rdF_l r k)
theorem rdF_fail {r : Rd} : ∀ {k : Nat}, (rdF r k).fail = false → r.fail = false
  | 0, h => h
  | k + 1, h => rdF_fail (k := k) (Rd.fail_of h)
theorem rdF_le {r : Rd} {j : Nat} : ∀ {k : Nat}, j ≤ k → (rdF r k).fail = false → (rdF r j).fail = false
  | 0, hj, h => by obtain rfl : j = 0 := by omega
                   exact h
  | k + 1, hj, h => by
    by_cases e : j = k + 1
    · subst e; exact h
    · exact rdF_le (k := k) (by omega) (Rd.fail_of h)
/-- a bit comes next -/
theorem take_bit {r : Rd} {x : Bool} {t : List Bool} (hf : r.fail = false) (h : r.rest = x :: t) : (r.tell 1 == 1) = x ∧ r.take 1 = ⟨r.l, r.at_ + 1, false⟩ ∧ (r.take 1).rest = t := by
  have h' : r.rest = Bt.bits (if x then 1 else 0) 1 ++ t := by rw [h]; cases x <;> rfl
  obtain ⟨a1, a2, a3⟩ := Rd.take_bits (n := 1) hf h' (by cases x <;> decide) (by omega)
  have a1' : r.tell 1 = if x then 1 else 0 := a1
  refine ⟨?_, a2, a3⟩
  rw [a1']; cases x <;> rfl
theorem bit_taken {r : Rd} (h : (r.take 1).fail = false) : r.rest = (r.tell 1 == 1) :: (r.take 1).rest := by
  obtain ⟨_, _, _, _, _, h6, h7⟩ := Rd.take_ok (n := 1) h
  have e6 : r.tell 1 < 2 := h6
  have e7 : r.rest = Bt.bits (r.tell 1) 1 ++ (r.take 1).rest := h7
  by_cases h1 : r.tell 1 = 1
  · rw [h1] at e7 ⊢; exact e7
  · have h0 : r.tell 1 = 0 := by omega
    rw [h0] at e7 ⊢; exact e7
/-- flags come next -/
theorem flags_in {r : Rd} {b e : E} {t : List Bool} (hf : r.fail = false) (h : r.rest = flags b e 6 ++ t) :
    ∀ k, k ≤ 6 → rdF r k = ⟨r.l, r.at_ + k, false⟩ ∧ (rdF r k).rest = (flags b e 6).drop k ++ t
  | 0, _ => ⟨by show r = _; rw [Nat.add_zero, ← hf], h⟩
  | k + 1, hk => by
    obtain ⟨e1, e2⟩ := flags_in hf h k (by omega)
    have hlt : k < (flags b e 6).length := by rw [flags_len]; omega
    rw [List.drop_eq_getElem_cons hlt, List.cons_append] at e2
    have hf2 : (rdF r k).fail = false := by rw [e1]
    obtain ⟨_, a2, a3⟩ := take_bit hf2 e2
    refine ⟨?_, a3⟩
    show (rdF r k).take 1 = _
    rw [a2, e1]
    rfl
theorem flag_in {r : Rd} {b e : E} {t : List Bool} (hf : r.fail = false) (h : r.rest = flags b e 6 ++ t) {k : Nat} (hk : k < 6) : fl r k = dif b e k := by
  obtain ⟨e1, e2⟩ := flags_in hf h k (by omega)
  have hlt : k < (flags b e 6).length := by rw [flags_len]; omega
  rw [List.drop_eq_getElem_cons hlt, List.cons_append] at e2
  have hf2 : (rdF r k).fail = false := by rw [e1]
  obtain ⟨a1, _, _⟩ := take_bit hf2 e2
  unfold fl
  rw [a1]
  simp [flags]

/-- the first k fields of e, the others of b -/
def mix (b e : E) : Nat → E
  | 0 => b
  | k + 1 => put (mix b e k) k (field e k)
theorem mix_id (b e : E) : ∀ k, (mix b e k).id = b.id ∧ (mix b e k).kind = b.kind
  | 0 => ⟨rfl, rfl⟩
  | k + 1 => by
    have h1 := put_id (mix b e k) k (field e k)
    have h2 := mix_id b e k
    exact ⟨h1.1.trans h2.1, h1.2.trans h2.2⟩
theorem mix_field (b e : E) : ∀ k, k ≤ 6 → ∀ j, j < 6 → field (mix b e k) j = if j < k then field e j else field b j
  | 0, _, j, _ => by rw [if_neg (by omega)]; rfl
  | k + 1, hk, j, hj => by
    show field (put (mix b e k) k (field e k)) j = _
    rw [field_put _ _ k (by omega) j hj]
    by_cases h : k = j
    · subst h; rw [if_pos rfl, if_pos (by omega)]
    · rw [if_neg h, mix_field b e k (by omega) j hj]
      by_cases h2 : j < k
      · rw [if_pos h2, if_pos (by omega)]
      · rw [if_neg h2, if_neg (by omega)]
theorem mix_all {b e : E} (hi : b.id = e.id) (hk : b.kind = e.kind) : mix b e 6 = e := by
  have h := mix_id b e 6
  refine ext (h.1.trans hi) (h.2.trans hk) ?_
  intro j hj
  rw [mix_field b e 6 (by omega) j hj, if_pos hj]
theorem wrap_back {x y : Int} (hx : I64 x) (hy : I64 y) : wrap64 (x + wrap64 (y - x)) = y := by unfold I64 wrap64 at *; omega
theorem wrap_zero {x y : Int} (hx : I64 x) (hy : I64 y) (h : wrap64 (y - x) = 0) : x = y := by unfold I64 wrap64 at *; omega
theorem wrap_diff {x d : Int} (hx : I64 x) (hd : I64 d) : wrap64 (wrap64 (x + d) - x) = d := by unfold I64 wrap64 at *; omega
theorem wrap_other {x d : Int} (hx : I64 x) (hd : I64 d) (h0 : d ≠ 0) : wrap64 (x + d) ≠ x := by unfold I64 wrap64 at *; omega
theorem formed_wf {e : E} (h : Formed e) : e.wf := by
  obtain ⟨h1, h2, h3, h4⟩ := h
  unfold E.wf I64
  omega
/-- the entity that comes next is taken -/
theorem rdS_in {r : Rd} {b e : E} (hb : b.wf) (h : Next r b e) : ∃ t, r.rest = all b e ++ t ∧ ∀ k, k ≤ 6 → ∃ rk, rdS r b k = some (mix b e k, rk) ∧ rk = ⟨r.l, r.at_ + 6 + (smalls b e k).length, false⟩ ∧ ∃ u, rk.rest = u ∧ smalls b e 6 ++ t = smalls b e k ++ u := by
  obtain ⟨hf, hfm, hi, hk, t, ht⟩ := h
  refine ⟨t, ht, ?_⟩
  have hw := formed_wf hfm
  unfold all at ht
  rw [List.append_assoc] at ht
  intro k
  induction k with
  | zero =>
    intro _
    obtain ⟨e1, e2⟩ := flags_in hf ht 6 (by omega)
    refine ⟨rdF r 6, rfl, ?_, (rdF r 6).rest, rfl, ?_⟩
    · rw [e1]; simp [smalls]
    · rw [e2]
      have : (flags b e 6).drop 6 = [] := by rw [List.drop_of_length_le (by rw [flags_len]; omega)]
      rw [this]; simp [smalls]
  | succ k ih =>
    intro hk6
    obtain ⟨rk, e1, e2, u, e3, e4⟩ := ih (by omega)
    have hfl := flag_in hf ht (k := k) (by omega)
    have hfk : rk.fail = false := by rw [e2]
    have hm := mix_field b e k (by omega) k (by omega)
    rw [if_neg (by omega)] at hm
    -- what is left begins with this field's
    have hsplit : ∀ n, k + 1 + n = 6 → ∃ z, smalls b e 6 = smalls b e k ++ (small1 b e k ++ z) := by
      intro n hn
      have : ∀ n, ∃ z, smalls b e (k + 1 + n) = smalls b e k ++ (small1 b e k ++ z) := by
        intro n
        induction n with
        | zero => exact ⟨[], by rw [Nat.add_zero, smalls_succ, List.append_nil]⟩
        | succ n ihn =>
          obtain ⟨z, hz⟩ := ihn
          refine ⟨z ++ small1 b e (k + 1 + n), ?_⟩
          rw [← Nat.add_assoc, smalls_succ, hz]
          simp only [List.append_assoc]
      obtain ⟨z, hz⟩ := this n
      rw [hn] at hz
      exact ⟨z, hz⟩
    obtain ⟨z, hz⟩ := hsplit (6 - (k + 1)) (by omega)
    have hu : u = small1 b e k ++ (z ++ t) := by
      rw [hz, List.append_assoc, List.append_assoc] at e4
      exact (List.append_cancel_left e4).symm
    have hr1 : rdS r b (k + 1) = step (fl r k) k (mix b e k, rk) := by
      show (rdS r b k).bind (step (fl r k) k) = _
      rw [e1]; rfl
    by_cases hd : dif b e k = true
    · have hne : field b k ≠ field e k := by unfold dif at hd; simpa using hd
      have hsm : small1 b e k = sm (zig (wrap64 (field e k - field b k))) := by unfold small1; rw [if_pos hd]
      have hI := w64_i (field e k - field b k)
      have hrest : rk.rest = sm (zig (wrap64 (field e k - field b k))) ++ (z ++ t) := by rw [e3, hu, hsm]
      obtain ⟨a1, a2, a3⟩ := Rd.sTake_bits hfk hrest (zig_lt hI.1 hI.2)
      have hd0 : ¬ rk.sTell = 0 := by
        rw [a1]
        exact fun h0 => hne (wrap_zero (field_wf hb k (by omega)) (field_wf hw k (by omega)) h0)
      refine ⟨rk.sTake, ?_, ?_, _, rfl, ?_⟩
      · rw [hr1, hfl, hd]
        unfold step
        rw [if_pos rfl, if_neg hd0]
        simp only
        rw [a1, hm, wrap_back (field_wf hb k (by omega)) (field_wf hw k (by omega))]
        rfl
      · rw [a2, e2, smalls_succ, List.length_append, hsm]
        show (⟨r.l, r.at_ + 6 + (smalls b e k).length + _, false⟩ : Rd) = _
        rw [Nat.add_assoc (r.at_ + 6)]
      · rw [a3, smalls_succ b e k, hz]; simp only [List.append_assoc]
    · have hd' : dif b e k = false := by simpa using hd
      have heq : field b k = field e k := by unfold dif at hd'; simpa using hd'
      have hsm : small1 b e k = [] := by unfold small1; rw [if_neg hd]
      refine ⟨rk, ?_, ?_, u, e3, ?_⟩
      · rw [hr1, hfl, hd']
        unfold step
        rw [if_neg (by decide)]
        have : mix b e (k + 1) = mix b e k := by
          show put (mix b e k) k (field e k) = _
          refine ext (put_id _ _ _).1 (put_id _ _ _).2 ?_
          intro j hj
          rw [field_put _ _ k (by omega) j hj]
          by_cases h : k = j
          · subst h; rw [if_pos rfl, hm, heq]
          · rw [if_neg h]
        rw [this]
      · rw [e2, smalls_succ, hsm, List.append_nil]
      · rw [smalls_succ b e k, hsm, List.append_nil]; exact e4
theorem next_read {r : Rd} {b e : E} (hb : b.wf) (h : Next r b e) : rdS r b 6 = some (e, ⟨r.l, r.at_ + (all b e).length, false⟩) := by
  obtain ⟨t, ht, hall⟩ := rdS_in hb h
  obtain ⟨rk, e1, e2, _⟩ := hall 6 (by omega)
  rw [e1, e2, mix_all h.2.2.1 h.2.2.2.1]
  unfold all
  rw [List.length_append, flags_len, Nat.add_assoc]
theorem next_uniq {r : Rd} {b e e' : E} (hb : b.wf) (h : Next r b e) (h' : Next r b e') : e = e' := by
  have := (next_read hb h).symm.trans (next_read hb h')
  simp at this
  exact this.1

/-- behind k fields: what was read so far -/
structure Sofar (r : Rd) (b : E) (k : Nat) (e : E) (rk : Rd) : Prop where
  id : e.id = b.id
  kind : e.kind = b.kind
  wf : e.wf
  same : ∀ j, k ≤ j → j < 6 → field e j = field b j
  told : ∀ j, j < k → j < 6 → dif b e j = fl r j
  bits : (rdF r 6).rest = smalls b e k ++ rk.rest
  len : rk.l = r.l
  at_ : rk.at_ = (rdF r 6).at_ + (smalls b e k).length
theorem small1_put {b e : E} {k j : Nat} {x : Int} (hk : k < 6) (hj : j < 6) (h : j ≠ k) : dif b (put e k x) j = dif b e j ∧ small1 b (put e k x) j = small1 b e j := by
  have hf := field_put e x k hk j hj
  rw [if_neg (by omega)] at hf
  have hd : dif b (put e k x) j = dif b e j := by unfold dif; rw [hf]
  refine ⟨hd, ?_⟩
  unfold small1
  rw [hd, hf]
theorem smalls_put {b e : E} {k : Nat} {x : Int} (hk : k < 6) : ∀ j, j ≤ k → smalls b (put e k x) j = smalls b e j
  | 0, _ => rfl
  | j + 1, hj => by rw [smalls_succ, smalls_succ, smalls_put hk j (by omega), (small1_put hk (by omega) (by omega)).2]
theorem put_wf {e : E} {k : Nat} {x : Int} (h : e.wf) (hx : I64 x) : (put e k x).wf := by
  obtain ⟨h0, h1, h2, h3, h4, h5, h6, h7⟩ := h
  unfold put
  split
  · exact ⟨h0, h1, hx, h3, h4, h5, h6, h7⟩
  · exact ⟨h0, h1, h2, hx, h4, h5, h6, h7⟩
  · exact ⟨h0, h1, h2, h3, hx, h5, h6, h7⟩
  · exact ⟨h0, h1, h2, h3, h4, hx, h6, h7⟩
  · exact ⟨h0, h1, h2, h3, h4, h5, hx, h7⟩
  · exact ⟨h0, h1, h2, h3, h4, h5, h6, hx⟩
  · exact ⟨h0, h1, h2, h3, h4, h5, h6, h7⟩
theorem step_fail {f : Bool} {k : Nat} {s s' : E × Rd} (h : step f k s = some s') (hf : s'.2.fail = false) : s.2.fail = false := by
  unfold step at h
  cases f with
  | false => simp at h; subst h; exact hf
  | true =>
    rw [if_pos rfl] at h
    split at h
    · cases h
    · simp at h; subst h; exact Rd.sfail_of hf
theorem sofar {r : Rd} {b : E} (hb : b.wf) : ∀ {k : Nat} {e : E} {rk : Rd}, k ≤ 6 → rdS r b k = some (e, rk) → rk.fail = false → Sofar r b k e rk
  | 0, e, rk, _, h, hf => by
    have h' : some (b, rdF r 6) = some (e, rk) := h
    simp at h'
    obtain ⟨rfl, rfl⟩ := h'
    exact ⟨rfl, rfl, hb, fun _ _ _ => rfl, fun j h => absurd h (by omega), rfl, rdF_l r 6, by simp [smalls]⟩
  | k + 1, e, rk, hk, h, hf => by
    have h' : (rdS r b k).bind (step (fl r k) k) = some (e, rk) := h
    cases hs : rdS r b k with
    | none => rw [hs] at h'; cases h'
    | some p =>
      obtain ⟨e0, r0⟩ := p
      rw [hs] at h'
      have hst : step (fl r k) k (e0, r0) = some (e, rk) := h'
      have hf0 : r0.fail = false := step_fail hst hf
      have S := sofar hb (by omega) hs hf0
      unfold step at hst
      cases hfl : fl r k with
      | false =>
        rw [hfl, if_neg (by decide)] at hst
        simp at hst
        obtain ⟨rfl, rfl⟩ := hst
        have hd : dif b e0 k = false := by unfold dif; rw [S.same k (by omega) (by omega)]; simp
        have hsm : small1 b e0 k = [] := by unfold small1; rw [hd, if_neg (by decide)]
        refine ⟨S.id, S.kind, S.wf, fun j h1 h2 => S.same j (by omega) h2, ?_, ?_, S.len, ?_⟩
        · intro j h1 h2
          by_cases e : j = k
          · subst e; rw [hd, hfl]
          · exact S.told j (by omega) h2
        · rw [smalls_succ, hsm, List.append_nil]; exact S.bits
        · rw [smalls_succ, hsm, List.append_nil]; exact S.at_
      | true =>
        rw [hfl, if_pos rfl] at hst
        by_cases hd0 : r0.sTell = 0
        · rw [if_pos hd0] at hst; cases hst
        · rw [if_neg hd0] at hst
          simp at hst
          obtain ⟨rfl, rfl⟩ := hst
          obtain ⟨z1, z2, z3⟩ := Rd.sTake_ok hf
          have hI : I64 r0.sTell := Rd.sTell_i64 r0
          have hbk := S.same k (by omega) (by omega)
          have hfb := field_wf hb k (by omega)
          have hfk := field_put e0 (wrap64 (field e0 k + r0.sTell)) k (by omega) k (by omega)
          rw [if_pos rfl, hbk] at hfk
          have hd : dif b (put e0 k (wrap64 (field e0 k + r0.sTell))) k = true := by
            unfold dif
            rw [hbk, hfk]
            have := wrap_other hfb hI hd0
            simp
            exact fun h => this h.symm
          have hsm : small1 b (put e0 k (wrap64 (field e0 k + r0.sTell))) k = sm (zig r0.sTell) := by
            unfold small1
            rw [hd, if_pos rfl]
            rw [hbk, hfk, wrap_diff hfb hI]
          have hp := put_id e0 k (wrap64 (field e0 k + r0.sTell))
          refine ⟨hp.1.trans S.id, hp.2.trans S.kind, put_wf S.wf (w64_i _), ?_, ?_, ?_, (Rd.sTake_l r0).trans S.len, ?_⟩
          · intro j h1 h2
            rw [field_put _ _ k (by omega) j h2, if_neg (by omega)]
            exact S.same j (by omega) h2
          · intro j h1 h2
            by_cases e : j = k
            · subst e; rw [hd, hfl]
            · rw [(small1_put (by omega) h2 e).1]; exact S.told j (by omega) h2
          · rw [smalls_succ, smalls_put (by omega) k (Nat.le_refl _), hsm, List.append_assoc, ← z2]; exact S.bits
          · rw [smalls_succ, smalls_put (by omega) k (Nat.le_refl _), hsm, List.length_append, z3]
            show r0.at_ + _ = _
            rw [S.at_]; omega
theorem rdS_fail {r : Rd} {b : E} : ∀ {k : Nat} {e : E} {rk : Rd}, rdS r b k = some (e, rk) → rk.fail = false → (rdF r 6).fail = false
  | 0, e, rk, h, hf => by
    have h' : some (b, rdF r 6) = some (e, rk) := h
    simp at h'
    rw [h'.2]; exact hf
  | k + 1, e, rk, h, hf => by
    have h' : (rdS r b k).bind (step (fl r k) k) = some (e, rk) := h
    cases hs : rdS r b k with
    | none => rw [hs] at h'; cases h'
    | some p =>
      obtain ⟨e0, r0⟩ := p
      rw [hs] at h'
      exact rdS_fail hs (step_fail (s := (e0, r0)) h' hf)
theorem flags_taken {r : Rd} : ∀ {k : Nat}, (rdF r k).fail = false → r.rest = (List.range k).map (fl r) ++ (rdF r k).rest ∧ (rdF r k).at_ = r.at_ + k
  | 0, _ => ⟨by simp [rdF], rfl⟩
  | k + 1, h => by
    obtain ⟨h1, h2⟩ := flags_taken (r := r) (k := k) (Rd.fail_of h)
    have h3 : (rdF r k).rest = fl r k :: (rdF r (k + 1)).rest := bit_taken h
    have h4 := (Rd.take_ok (n := 1) h).2.2.2.1
    refine ⟨?_, ?_⟩
    · rw [List.range_succ, List.map_append, List.append_assoc]
      show r.rest = (List.range k).map (fl r) ++ ([fl r k] ++ (rdF r (k + 1)).rest)
      rw [List.singleton_append, ← h3]; exact h1
    · have : (rdF r (k + 1)).at_ = (rdF r k).at_ + 1 := by
        show ((rdF r k).take ((1 : Nat) : Int)).at_ = _
        rw [h4]
      rw [this, h2]; omega
/-- what was read, and is formed, is what came -/
theorem next_of {r rk : Rd} {b e : E} (hb : b.wf) (h : rdS r b 6 = some (e, rk)) (hf : rk.fail = false) (hfm : Formed e) : Next r b e ∧ rk = ⟨r.l, r.at_ + (all b e).length, false⟩ := by
  have S := sofar hb (by omega) h hf
  have h6 := rdS_fail h hf
  obtain ⟨h1, h2⟩ := flags_taken h6
  have hfl : (List.range 6).map (fl r) = flags b e 6 := by
    unfold flags
    apply List.map_congr_left
    intro i hi
    rw [List.mem_range] at hi
    exact (S.told i hi hi).symm
  refine ⟨⟨rdF_fail h6, hfm, S.id.symm, S.kind.symm, rk.rest, ?_⟩, ?_⟩
  · unfold all
    rw [List.append_assoc, ← S.bits, ← hfl]; exact h1
  · have e1 := S.len
    have e2 := S.at_
    obtain ⟨l, a, f⟩ := rk
    simp only at e1 e2 hf
    subst e1 hf
    unfold all
    rw [List.length_append, flags_len]
    congr 1
    omega
theorem none_of {r : Rd} {b : E} (hb : b.wf) (h : rdS r b 6 = none) : ∀ e, ¬ Next r b e := by
  intro e hn
  rw [next_read hb hn] at h
  cases h
theorem none_fail {r rk : Rd} {b e : E} (hb : b.wf) (h : rdS r b 6 = some (e, rk)) (hf : rk.fail = true ∨ ¬ Formed e) : ∀ e, ¬ Next r b e := by
  intro e' hn
  rw [next_read hb hn] at h
  simp at h
  obtain ⟨rfl, rfl⟩ := h
  rcases hf with hf | hf
  · cases hf
  · exact hf hn.2.1
theorem rdS_none {r : Rd} {b : E} {j : Nat} (hj : j + 1 ≤ 6) (h : rdS r b (j + 1) = none) : rdS r b 6 = none := by
  have : ∀ n, rdS r b (j + 1 + n) = none := by
    intro n
    induction n with
    | zero => exact h
    | succ n ih =>
      show (rdS r b (j + 1 + n)).bind _ = none
      rw [ih]; rfl
  have := this (6 - (j + 1))
  rw [show j + 1 + (6 - (j + 1)) = 6 by omega] at this
  exact this
end Go.Proofs.Ytgabgkgokmeaeaa.En


/- Entities in memory: their cells, rows of them; whether one is formed: the reference's (EnR). -/
namespace Go.Proofs.Ytgabgkgokmeaeaa
open Go.RowKit
set_option linter.unusedVariables false
set_option linter.unusedSimpArgs false

/-- an entity's cells -/
def enEnc (e : En.E) : List Value := [.int .i64 e.id, .int .i64 e.kind, .int .i64 e.ax, .int .i64 e.ay, .int .i64 e.vx, .int .i64 e.vy, .int .i64 e.h, .int .i64 e.t]
abbrev enVal (e : En.E) : Value := .agg #[.int .i64 e.id, .int .i64 e.kind, .int .i64 e.ax, .int .i64 e.ay, .int .i64 e.vx, .int .i64 e.vy, .int .i64 e.h, .int .i64 e.t]
theorem enEnc_len {l : List En.E} : ∀ a ∈ l, (enEnc a).length = 8 := fun _ _ => rfl
theorem enEnc_one {l : List En.E} : ∀ a ∈ l, ∀ u ∈ enEnc a, u.oneCell' = true := by
  intro a _ u hu
  simp [enEnc] at hu
  rcases hu with rfl | rfl | rfl | rfl | rfl | rfl | rfl | rfl <;> rfl

theorem elem_en : ElemOk Try.prog 32 49 (.agg #[.int .i64 0, .int .i64 0, .int .i64 0, .int .i64 0, .int .i64 0, .int .i64 0, .int .i64 0, .int .i64 0]) 8 64 := ⟨by kernel_rfl, by kernel_rfl, rfl, by decide⟩

theorem en_at {oa : Option Addr} {l : List En.E} {w : World} (h : RowOf 8 enEnc oa l w) {k : Nat} {e : En.E} (hk : l[k]? = some e) :
    ∃ g off, oa = some ⟨g, off, none⟩ ∧ g < w.heap.size ∧ w.cell? ⟨g, off + k * 8, none⟩ = some (.int .i64 e.id) ∧ w.cell? ⟨g, off + k * 8 + 1, none⟩ = some (.int .i64 e.kind) ∧ w.cell? ⟨g, off + k * 8 + 2, none⟩ = some (.int .i64 e.ax) ∧ w.cell? ⟨g, off + k * 8 + 3, none⟩ = some (.int .i64 e.ay) ∧ w.cell? ⟨g, off + k * 8 + 4, none⟩ = some (.int .i64 e.vx) ∧ w.cell? ⟨g, off + k * 8 + 5, none⟩ = some (.int .i64 e.vy) ∧ w.cell? ⟨g, off + k * 8 + 6, none⟩ = some (.int .i64 e.h) ∧ w.cell? ⟨g, off + k * 8 + 7, none⟩ = some (.int .i64 e.t) := by
  obtain ⟨g, off, ho, hlt, hc⟩ := h k _ hk
  exact ⟨g, off, ho, hlt, hc 0 _ rfl, hc 1 _ rfl, hc 2 _ rfl, hc 3 _ rfl, hc 4 _ rfl, hc 5 _ rfl, hc 6 _ rfl, hc 7 _ rfl⟩
theorem bool_ret {a b : Bool} {p : Prop} (h : a = b) (hp : p) : Ending.returned (.bool a) = .returned (.bool b) ∧ p := by rw [h]; exact ⟨rfl, hp⟩

namespace EnR

end EnR
end Go.Proofs.Ytgabgkgokmeaeaa

/- Commands: what was read is what came; a row that is cut off fails the reader. -/
namespace Go.Proofs.Ytgabgkgokmeaeaa.Cm
open Bt
set_option linter.unusedVariables false

/-- the two numbers of a command are none of eight bits that are all 1 -/
def Fits (r : Rd) : Prop := r.tell 8 < 255 ∧ (r.take 8).tell 8 < 255
theorem bit_of {r : Rd} (h : (r.take 1).fail = false) : r.rest = (if r.tell 1 = 1 then true else false) :: (r.take 1).rest := by
  obtain ⟨_, _, _, _, _, h6, h7⟩ := Rd.take_ok (n := 1) h
  have e6 : r.tell 1 < 2 := h6
  have e7 : r.rest = Bt.bits (r.tell 1) 1 ++ (r.take 1).rest := h7
  by_cases h1 : r.tell 1 = 1
  · rw [if_pos h1]; rw [h1] at e7; exact e7
  · rw [if_neg h1]
    have h0 : r.tell 1 = 0 := by omega
    rw [h0] at e7; exact e7
theorem bits_of {r : Rd} {n : Nat} (h : (r.take (n : Int)).fail = false) : r.rest = Bt.bits (r.tell (n : Int)) n ++ (r.take (n : Int)).rest := (Rd.take_ok h).2.2.2.2.2.2
theorem rdOne_fire {r : Rd} {m : Nat} (hx : Fits r) (hc : ((r.take 8).take 8).tell 1 = 1) :
    rdOne r m = (⟨m, (r.tell 8 : Int) - 127, ((r.take 8).tell 8 : Int) - 127, true, (((r.take 8).take 8).take 1).tell 32, ((((r.take 8).take 8).take 1).take 32).tell 8⟩, ((((r.take 8).take 8).take 1).take 32).take 8) := by
  have hx' : r.tell 8 < 255 ∧ (r.take 8).tell 8 < 255 := hx
  show (if ((r.take 8).take 8).tell 1 = 1 then _ else _) = _
  rw [if_pos hc]
  simp only [if_pos hx']
theorem rdOne_calm {r : Rd} {m : Nat} (hx : Fits r) (hc : ¬ ((r.take 8).take 8).tell 1 = 1) :
    rdOne r m = (⟨m, (r.tell 8 : Int) - 127, ((r.take 8).tell 8 : Int) - 127, false, 0, 0⟩, ((r.take 8).take 8).take 1) := by
  have hx' : r.tell 8 < 255 ∧ (r.take 8).tell 8 < 255 := hx
  show (if ((r.take 8).take 8).tell 1 = 1 then _ else _) = _
  rw [if_neg hc]
  simp only [if_pos hx']
theorem rdOne_off_fire {r : Rd} {m : Nat} (hx : ¬ Fits r) (hc : ((r.take 8).take 8).tell 1 = 1) :
    rdOne r m = (⟨m, 0, 0, true, (((r.take 8).take 8).take 1).tell 32, ((((r.take 8).take 8).take 1).take 32).tell 8⟩, ((((r.take 8).take 8).take 1).take 32).take 8) := by
  have hx' : ¬ (r.tell 8 < 255 ∧ (r.take 8).tell 8 < 255) := hx
  show (if ((r.take 8).take 8).tell 1 = 1 then _ else _) = _
  rw [if_pos hc]
  simp only [if_neg hx']
theorem rdOne_off_calm {r : Rd} {m : Nat} (hx : ¬ Fits r) (hc : ¬ ((r.take 8).take 8).tell 1 = 1) :
    rdOne r m = (⟨m, 0, 0, false, 0, 0⟩, ((r.take 8).take 8).take 1) := by
  have hx' : ¬ (r.tell 8 < 255 ∧ (r.take 8).tell 8 < 255) := hx
  show (if ((r.take 8).take 8).tell 1 = 1 then _ else _) = _
  rw [if_neg hc]
  simp only [if_neg hx']
/-- what was read of one command is what came -/
theorem rdOne_bits {r : Rd} {m : Nat} (h : (rdOne r m).2.fail = false) (hx : Fits r) : r.rest = one (rdOne r m).1 ++ (rdOne r m).2.rest := by
  have ea : ((r.tell 8 : Int) - 127 + 127).toNat = r.tell 8 := by omega
  have eb : (((r.take 8).tell 8 : Int) - 127 + 127).toNat = (r.take 8).tell 8 := by omega
  by_cases hc : ((r.take 8).take 8).tell 1 = 1
  · rw [rdOne_fire hx hc] at h ⊢
    have h' : (((((r.take 8).take 8).take 1).take 32).take 8).fail = false := h
    have f4 := Rd.fail_of h'
    have f3 := Rd.fail_of f4
    have f2 := Rd.fail_of f3
    have f1 := Rd.fail_of f2
    have e1 : r.rest = Bt.bits (r.tell 8) 8 ++ (r.take 8).rest := bits_of (n := 8) f1
    have e2 : (r.take 8).rest = Bt.bits ((r.take 8).tell 8) 8 ++ ((r.take 8).take 8).rest := bits_of (n := 8) f2
    have e3 := bit_of f3
    rw [if_pos hc] at e3
    have e4 : (((r.take 8).take 8).take 1).rest = Bt.bits ((((r.take 8).take 8).take 1).tell 32) 32 ++ ((((r.take 8).take 8).take 1).take 32).rest := bits_of (n := 32) f4
    have e5 : ((((r.take 8).take 8).take 1).take 32).rest = Bt.bits (((((r.take 8).take 8).take 1).take 32).tell 8) 8 ++ (((((r.take 8).take 8).take 1).take 32).take 8).rest := bits_of (n := 8) h'
    unfold one
    simp only
    rw [ea, eb, if_pos trivial]
    rw [e1, e2, e3, e4, e5]
    simp only [List.append_assoc, List.cons_append]
  · rw [rdOne_calm hx hc] at h ⊢
    have h' : (((r.take 8).take 8).take 1).fail = false := h
    have f2 := Rd.fail_of h'
    have f1 := Rd.fail_of f2
    have e1 : r.rest = Bt.bits (r.tell 8) 8 ++ (r.take 8).rest := bits_of (n := 8) f1
    have e2 : (r.take 8).rest = Bt.bits ((r.take 8).tell 8) 8 ++ ((r.take 8).take 8).rest := bits_of (n := 8) f2
    have e3 := bit_of h'
    rw [if_neg hc] at e3
    unfold one
    simp only
    rw [ea, eb, if_neg (by decide)]
    rw [e1, e2, e3]
    simp only [List.append_assoc, List.cons_append, List.nil_append]
theorem rdN_bits {r : Rd} {m : Nat} : ∀ {k : Nat}, (rdN r m k).2.fail = false → (∀ j, j < k → Fits (rdN r m j).2) → r.rest = some_ (rdN r m k).1 ++ (rdN r m k).2.rest
  | 0, _, _ => rfl
  | k + 1, h, hx => by
    have h1 := rdN_bits (r := r) (m := m) (k := k) (rdOne_fail h) fun j hj => hx j (by omega)
    have h2 := rdOne_bits (m := (m + k) % 4294967296) h (hx k (by omega))
    show r.rest = some_ ((rdN r m k).1 ++ [_]) ++ (rdOne (rdN r m k).2 ((m + k) % 4294967296)).2.rest
    rw [some_snoc, List.append_assoc, ← h2]
    exact h1
/-- what was read is a row: it is the one that came -/
theorem next_of_fits {r : Rd} (hf : (rdRow r).2.fail = false) (hr : row (rdRow r).1 = true) (hx : ∀ j, j < r.tell 3 + 1 → Fits (rdN ((r.take 3).take 32) ((r.take 3).tell 32) j).2) : Next r (rdRow r).1 := by
  refine next_of_put hf hr ⟨(rdRow r).2.rest, ?_⟩
  have f2 : ((r.take 3).take 32).fail = false := rdN_fail hf
  have f1 := Rd.fail_of f2
  have e1 : r.rest = Bt.bits (r.tell 3) 3 ++ (r.take 3).rest := bits_of (n := 3) f1
  have e2 : (r.take 3).rest = Bt.bits ((r.take 3).tell 32) 32 ++ ((r.take 3).take 32).rest := bits_of (n := 32) f2
  have e3 : ((r.take 3).take 32).rest = some_ (rdRow r).1 ++ (rdRow r).2.rest := rdN_bits hf hx
  obtain ⟨h1, h2, h3⟩ := (row_iff _).1 hr
  have e4 : first (rdRow r).1 = (r.take 3).tell 32 := by
    have hl := rdRow_length r
    obtain ⟨c, hc⟩ : ∃ c, (rdRow r).1[0]? = some c := ⟨_, List.getElem?_eq_getElem (by omega)⟩
    have hn : c.n = (r.take 3).tell 32 := by
      have : ∀ k, ∀ i d, (rdN ((r.take 3).take 32) ((r.take 3).tell 32) k).1[i]? = some d → d.n = ((r.take 3).tell 32 + i) % 4294967296 := by
        intro k
        induction k with
        | zero => intro i d hd; simp [rdN] at hd
        | succ k ih =>
          intro i d hd
          have hd' : ((rdN ((r.take 3).take 32) ((r.take 3).tell 32) k).1 ++ [(rdOne (rdN ((r.take 3).take 32) ((r.take 3).tell 32) k).2 (((r.take 3).tell 32 + k) % 4294967296)).1])[i]? = some d := hd
          by_cases hi : i < k
          · rw [List.getElem?_append_left (by rw [rdN_length]; exact hi)] at hd'
            exact ih i d hd'
          · rw [List.getElem?_append_right (by rw [rdN_length]; omega), rdN_length] at hd'
            have hik : i - k = 0 := by
              have := (List.getElem?_eq_some_iff.1 hd').1
              simp at this; omega
            rw [hik] at hd'
            simp at hd'
            subst hd'
            have : i = k := by omega
            subst this
            unfold rdOne
            simp only
            split <;> rfl
      have h0 := this (r.tell 3 + 1) 0 c hc
      rw [h0, Nat.add_zero]
      exact Nat.mod_eq_of_lt (tell_pow (r.take 3) 32)
    cases hl' : (rdRow r).1 with
    | nil => rw [hl'] at hc; simp at hc
    | cons d t => rw [hl'] at hc; simp at hc; subst hc; exact hn
  unfold all
  rw [e4, rdRow_length, show r.tell 3 + 1 - 1 = r.tell 3 by omega, List.append_assoc, List.append_assoc, ← e3, ← e2]
  exact e1
/-- a row that comes has no eight bits that are all 1 -/
theorem next_fits {r : Rd} {l : List C} (h : Next r l) : ∀ j, j < l.length → Fits (rdN ((r.take 3).take 32) ((r.take 3).tell 32) j).2 := by
  intro j hj
  obtain ⟨h1, h2, h3, t, h4, h5⟩ := next_head h
  obtain ⟨hf, hr, hw, _⟩ := h
  have hrow := ((row_iff l).1 hr).2.2
  obtain ⟨e1, e2⟩ := rdN_in (r := (r.take 3).take 32) (m := (r.take 3).tell 32) (by rw [h3]) hw (by rw [h2]; exact hrow) h4 j (by omega)
  have hc := List.getElem?_eq_getElem hj
  obtain ⟨g1, g2⟩ := hrow j _ hc
  have hwc := hw _ (List.mem_of_getElem? hc)
  rw [List.drop_eq_getElem_cons hj] at e2
  generalize l[j] = c at *
  have e3 : (rdN ((r.take 3).take 32) ((r.take 3).tell 32) j).2.rest = Bt.bits (c.x + 127).toNat 8 ++ (Bt.bits (c.y + 127).toNat 8 ++ ((if c.f then true :: (Bt.bits c.v 32 ++ Bt.bits c.q 8) else [false]) ++ (some_ (l.drop (j + 1)) ++ t))) := by
    rw [e2]; simp [some_, one]
  obtain ⟨_, w2, w3, w4, w5, _⟩ := hwc
  obtain ⟨_, _, g3, g4, _⟩ := g1
  have hf2 : (rdN ((r.take 3).take 32) ((r.take 3).tell 32) j).2.fail = false := by rw [e1]
  obtain ⟨a1, a2, a3⟩ := Rd.take_bits (n := 8) hf2 e3 (by omega) (by omega)
  have f1 : ((rdN ((r.take 3).take 32) ((r.take 3).tell 32) j).2.take ((8 : Nat) : Int)).fail = false := by rw [a2]
  obtain ⟨b1, b2, b3⟩ := Rd.take_bits (n := 8) f1 a3 (by omega) (by omega)
  have ha : (rdN ((r.take 3).take 32) ((r.take 3).tell 32) j).2.tell 8 = (c.x + 127).toNat := a1
  have hb : ((rdN ((r.take 3).take 32) ((r.take 3).tell 32) j).2.take 8).tell 8 = (c.y + 127).toNat := b1
  unfold Fits
  rw [ha, hb]
  omega

theorem on_rest {r : Rd} (s : List Bool) (h : r.wf) : (r.on s).rest = r.rest ++ s := by
  unfold Rd.on Rd.rest
  exact List.drop_append_of_le_length h
theorem rdOne_on {r : Rd} {m : Nat} (s : List Bool) (h : (rdOne r m).2.fail = false) : rdOne (r.on s) m = ((rdOne r m).1, (rdOne r m).2.on s) := by
  unfold rdOne at h ⊢
  simp only at h ⊢
  by_cases hc : ((r.take 8).take 8).tell 1 = 1
  · rw [if_pos hc] at h
    have f4 := Rd.fail_of h
    have f3 := Rd.fail_of f4
    have f2 := Rd.fail_of f3
    have f1 := Rd.fail_of f2
    have o1 := Rd.take_on (n := 8) s f1
    have o2 := Rd.take_on (n := 8) s f2
    have o3 := Rd.take_on (n := 1) s f3
    have o4 := Rd.take_on (n := 32) s f4
    have o5 := Rd.take_on (n := 8) s h
    simp only [Int.cast_ofNat_Int] at o1 o2 o3 o4 o5
    rw [o1.1, o1.2, o2.1, o2.2, o3.1, o3.2, if_pos hc, if_pos hc, o4.1, o4.2, o5.1, o5.2]
  · rw [if_neg hc] at h
    have f2 := Rd.fail_of h
    have f1 := Rd.fail_of f2
    have o1 := Rd.take_on (n := 8) s f1
    have o2 := Rd.take_on (n := 8) s f2
    have o3 := Rd.take_on (n := 1) s h
    simp only [Int.cast_ofNat_Int] at o1 o2 o3
    rw [o1.1, o1.2, o2.1, o2.2, o3.1, o3.2, if_neg hc, if_neg hc]
theorem rdN_on {r : Rd} {m : Nat} (s : List Bool) : ∀ {k : Nat}, (rdN r m k).2.fail = false → rdN (r.on s) m k = ((rdN r m k).1, (rdN r m k).2.on s)
  | 0, _ => rfl
  | k + 1, h => by
    have h1 := rdN_on (r := r) (m := m) s (k := k) (rdOne_fail h)
    have h2 := rdOne_on (m := (m + k) % 4294967296) s h
    show ((rdN (r.on s) m k).1 ++ [(rdOne (rdN (r.on s) m k).2 ((m + k) % 4294967296)).1], (rdOne (rdN (r.on s) m k).2 ((m + k) % 4294967296)).2) = _
    rw [h1]
    simp only
    rw [h2]
    rfl
/-- of bits that are cut off within a row: all is read alike till the reader fails -/
theorem cut_head {r : Rd} {l : List C} {s : List Bool} (h : Next (r.on s) l) : ((r.take 3).fail = false → r.tell 3 + 1 = l.length) ∧ (((r.take 3).take 32).fail = false → (r.take 3).tell 32 = first l) := by
  obtain ⟨h1, h2, h3, _⟩ := next_head h
  refine ⟨fun f1 => ?_, fun f2 => ?_⟩
  · have o1 := Rd.take_on (n := 3) s f1
    simp only [Int.cast_ofNat_Int] at o1
    rw [← o1.1]; exact h1
  · have f1 := Rd.fail_of f2
    have o1 := Rd.take_on (n := 3) s f1
    have o2 := Rd.take_on (n := 32) s f2
    simp only [Int.cast_ofNat_Int] at o1 o2
    rw [← o2.1, ← o1.2]; exact h2
theorem cut_fails {r : Rd} {l : List C} {s : List Bool} (hw : r.wf) (h : Next (r.on s) l) (hs : r.rest.length < (all l).length) : (rdRow r).2.fail = true := by
  cases hf : (rdRow r).2.fail with
  | true => rfl
  | false =>
    exfalso
    have f2 : ((r.take 3).take 32).fail = false := rdN_fail hf
    have f1 := Rd.fail_of f2
    have o1 := Rd.take_on (n := 3) s f1
    have o2 := Rd.take_on (n := 32) s f2
    simp only [Int.cast_ofNat_Int] at o1 o2
    have e : rdRow (r.on s) = ((rdRow r).1, (rdRow r).2.on s) := by
      unfold rdRow at hf ⊢
      rw [o1.1, o1.2, o2.1, o2.2]
      exact rdN_on s hf
    have e2 := (next_read h).symm.trans e
    have e3 := congrArg (fun p => p.2.at_) e2
    have e4 : r.at_ + (all l).length = (rdRow r).2.at_ := e3
    have hw2 : (rdRow r).2.wf := rdN_rwf (Rd.take_wf (Rd.take_wf hw)) _
    have hl2 : (rdRow r).2.l = r.l := (rdN_l _ _ _).trans ((Rd.take_l _ _).trans (Rd.take_l _ _))
    unfold Rd.wf at hw2 hw
    rw [hl2] at hw2
    rw [Rd.rest_length] at hs
    unfold Rd.left at hs
    omega

theorem take_at {r : Rd} {n : Nat} (h : (r.take (n : Int)).fail = false) : (r.take (n : Int)).at_ = r.at_ + n := by rw [(Rd.take_ok h).2.2.2.1]
theorem rdOne_at {r : Rd} {m : Nat} (h : (rdOne r m).2.fail = false) : (rdOne r m).2.at_ = r.at_ + (if (rdOne r m).1.f then 57 else 17) := by
  unfold rdOne at h ⊢
  simp only at h ⊢
  by_cases hc : ((r.take 8).take 8).tell 1 = 1
  · rw [if_pos hc] at h ⊢
    have f4 := Rd.fail_of h
    have f3 := Rd.fail_of f4
    have f2 := Rd.fail_of f3
    have f1 := Rd.fail_of f2
    have e1 := take_at (n := 8) f1
    have e2 := take_at (n := 8) f2
    have e3 := take_at (n := 1) f3
    have e4 := take_at (n := 32) f4
    have e5 := take_at (n := 8) h
    simp only [Int.cast_ofNat_Int] at e1 e2 e3 e4 e5
    show (((((r.take 8).take 8).take 1).take 32).take 8).at_ = r.at_ + (if true = true then 57 else 17)
    rw [if_pos rfl]
    omega
  · rw [if_neg hc] at h ⊢
    have f2 := Rd.fail_of h
    have f1 := Rd.fail_of f2
    have e1 := take_at (n := 8) f1
    have e2 := take_at (n := 8) f2
    have e3 := take_at (n := 1) h
    simp only [Int.cast_ofNat_Int] at e1 e2 e3
    show (((r.take 8).take 8).take 1).at_ = r.at_ + (if false = true then 57 else 17)
    rw [if_neg (by decide)]
    omega
theorem size_snoc : ∀ (l : List C) (c : C), size (l ++ [c]) = size l + (if c.f then 57 else 17)
  | [], c => by show (if c.f then 57 else 17) + 0 = 0 + _; omega
  | d :: l, c => by
    show (if d.f then 57 else 17) + size (l ++ [c]) = (if d.f then 57 else 17) + size l + _
    rw [size_snoc l c]; omega
theorem rdN_at {r : Rd} {m : Nat} : ∀ {k : Nat}, (rdN r m k).2.fail = false → (rdN r m k).2.at_ = r.at_ + size (rdN r m k).1
  | 0, _ => rfl
  | k + 1, h => by
    have h1 := rdN_at (r := r) (m := m) (k := k) (rdOne_fail h)
    have h2 := rdOne_at (m := (m + k) % 4294967296) h
    show (rdOne (rdN r m k).2 ((m + k) % 4294967296)).2.at_ = r.at_ + size ((rdN r m k).1 ++ [(rdOne (rdN r m k).2 ((m + k) % 4294967296)).1])
    rw [h2, h1, size_snoc]; omega
theorem rdRow_at {r : Rd} (h : (rdRow r).2.fail = false) : (rdRow r).2.at_ = r.at_ + (all (rdRow r).1).length := by
  have f2 : ((r.take 3).take 32).fail = false := rdN_fail h
  have f1 := Rd.fail_of f2
  have e1 := take_at (n := 3) f1
  have e2 := take_at (n := 32) f2
  have e3 : (rdRow r).2.at_ = _ := rdN_at h
  simp only [Int.cast_ofNat_Int] at e1 e2
  rw [e3, all_length]
  show ((r.take 3).take 32).at_ + size (rdRow r).1 = _
  omega
theorem rdRow_l (r : Rd) : (rdRow r).2.l = r.l := (rdN_l _ _ _).trans ((Rd.take_l _ _).trans (Rd.take_l _ _))
/-- none comes: the reader has failed; what was read is no row; a bit is another one -/
theorem none_fail {r : Rd} (h : (rdRow r).2.fail = true) : ∀ l, ¬ Next r l := by
  intro l hn
  rw [next_read hn] at h
  cases h
theorem none_row {r : Rd} (h : row (rdRow r).1 = false) : ∀ l, ¬ Next r l := by
  intro l hn
  rw [next_read hn, hn.2.1] at h
  cases h
theorem none_bit {r : Rd} {j : Nat} {a b : Bool} (ha : (all (rdRow r).1)[j]? = some a) (hb : r.l[r.at_ + j]? = some b) (h : a ≠ b) : ∀ l, ¬ Next r l := by
  intro l hn
  rw [next_read hn] at ha
  obtain ⟨_, _, _, t, ht⟩ := hn
  have hj : j < (all l).length := (List.getElem?_eq_some_iff.1 ha).1
  have e : r.rest[j]? = some b := by unfold Rd.rest; rw [List.getElem?_drop]; exact hb
  rw [ht, List.getElem?_append_left hj, ha] at e
  simp at e
  exact h e
/-- all that was read, put again, is what came -/
theorem next_of_bits {r : Rd} (hf : (rdRow r).2.fail = false) (hr : row (rdRow r).1 = true) (hb : (all (rdRow r).1).take (all (rdRow r).1).length = r.rest.take (all (rdRow r).1).length) : Next r (rdRow r).1 ∧ (rdRow r).2 = ⟨r.l, r.at_ + (all (rdRow r).1).length, false⟩ := by
  have hn := next_of_put hf hr ⟨r.rest.drop (all (rdRow r).1).length, by
    rw [List.take_length] at hb
    have := List.take_append_drop (all (rdRow r).1).length r.rest
    rw [← hb] at this
    exact this.symm⟩
  refine ⟨hn, ?_⟩
  have := congrArg Prod.snd (next_read hn)
  exact this
end Go.Proofs.Ytgabgkgokmeaeaa.Cm


/- Commands in memory: their cells, rows of them, whether one is formed: the program's (CmW) and the reference's (CmR). -/
namespace Go.Proofs.Ytgabgkgokmeaeaa
open Go.RowKit
set_option linter.unusedVariables false
set_option linter.unusedSimpArgs false

/-- a command's cells -/
def cmEnc (c : Cm.C) : List Value := [.int .u32 (c.n : Int), .int .i8 c.x, .int .i8 c.y, .bool c.f, .int .u32 (c.v : Int), .int .u8 (c.q : Int)]
abbrev cmVal (c : Cm.C) : Value := .agg #[.int .u32 (c.n : Int), .int .i8 c.x, .int .i8 c.y, .bool c.f, .int .u32 (c.v : Int), .int .u8 (c.q : Int)]
theorem cmEnc_len {l : List Cm.C} : ∀ a ∈ l, (cmEnc a).length = 6 := fun _ _ => rfl
theorem cmEnc_one {l : List Cm.C} : ∀ a ∈ l, ∀ u ∈ cmEnc a, u.oneCell' = true := by
  intro a _ u hu
  simp [cmEnc] at hu
  rcases hu with rfl | rfl | rfl | rfl | rfl | rfl <;> rfl

theorem cm_at {oa : Option Addr} {l : List Cm.C} {w : World} (h : RowOf 6 cmEnc oa l w) {k : Nat} {c : Cm.C} (hk : l[k]? = some c) :
    ∃ g off, oa = some ⟨g, off, none⟩ ∧ g < w.heap.size ∧ w.cell? ⟨g, off + k * 6, none⟩ = some (.int .u32 (c.n : Int)) ∧ w.cell? ⟨g, off + k * 6 + 1, none⟩ = some (.int .i8 c.x) ∧ w.cell? ⟨g, off + k * 6 + 2, none⟩ = some (.int .i8 c.y) ∧ w.cell? ⟨g, off + k * 6 + 3, none⟩ = some (.bool c.f) ∧ w.cell? ⟨g, off + k * 6 + 4, none⟩ = some (.int .u32 (c.v : Int)) ∧ w.cell? ⟨g, off + k * 6 + 5, none⟩ = some (.int .u8 (c.q : Int)) := by
  obtain ⟨g, off, ho, hlt, hc⟩ := h k _ hk
  exact ⟨g, off, ho, hlt, hc 0 _ rfl, hc 1 _ rfl, hc 2 _ rfl, hc 3 _ rfl, hc 4 _ rfl, hc 5 _ rfl⟩
theorem cm_bret {a b : Bool} {p : Prop} (h : a = b) (hp : p) : Ending.returned (.bool a) = .returned (.bool b) ∧ p := by rw [h]; exact ⟨rfl, hp⟩

namespace CmW
set_option maxHeartbeats 1000000 in
theorem formed_any (c : Cm.C) (hw : c.wf) (w : World) :
    Calls Try.prog 37 #[cmVal c] w fun e w' => e = .returned (.bool (decide (Cm.Formed c))) ∧ Turned [] w w' := by
  obtain ⟨n, x, y, f, v, q⟩ := c
  obtain ⟨h1, h2, h3, h4, h5, h6, h7⟩ := hw
  simp only at h1 h2 h3 h4 h5 h6 h7
  have HT : ∀ o, Turned [] w (w.alloc o) := fun o => (Turned.refl _ _).alloc o
  unfold cmVal
  cases f
  all_goals
    go_enter Try.func37, Try.ntmps37
    go_wp2
    all_goals go_ret
    all_goals refine cm_bret ?_ (HT _)
    all_goals refine Bool.eq_iff_iff.2 ?_
    all_goals simp only [Cm.Formed, decide_eq_true_iff, beq_iff_eq, Bool.and_eq_true, Bool.false_eq_true, false_or, true_or, and_true, true_iff, false_iff]
    all_goals (try simp only [beq_iff_eq] at *)
    all_goals omega
end CmW

namespace CmR
end CmR
end Go.Proofs.Ytgabgkgokmeaeaa

/- A map of tiles that came in: its rows, where they lie. -/
namespace Go.Proofs.Ytgabgkgokmeaeaa
open Go.ChangeShapes Go.WideShapes Go.ChangeAt Go.RowKit
set_option linter.unusedVariables false

section
variable {H : Type} {enc : TypeId × Value → H} {P : Program} {w : World} {base : Nat} {spare : Nat → Bool} {held : Bool}
/-- a slice that lies in a struct -/
theorem flats_in {α : Type} {t e : TypeId} {d n : Nat} {ks : List Leaf} {v : Value} {x : DataW H × List MemPlace} (f : α → List Value)
    (ht : P.underlying t = some (.slice e)) (hf : flat P d e = some ks) (hc : P.cellsOf e = ks.length) (hpos : 0 < ks.length) (hk : ∀ cs, AllOk ks cs → ∃ a, cs = f a)
    (h : DataW.trod enc P w base spare held n t [v] = some x) :
    ∃ (oa : Option Addr) (cap : Nat) (l : List α), v = .slice oa l.length cap ∧ l.length ≤ maxLen ∧ l.length ≤ cap ∧ RowOf ks.length f oa l w ∧ ∀ a ∈ l, AllOk ks (f a) := by
  rcases Go.Deep.open_slice ht h with ⟨hcs, _⟩ | ⟨a, len, cap, m, n, D, Pl, hcs, hb, hl, hm, hmm, _, hel⟩
  · simp at hcs
    subst hcs
    exact ⟨none, 0, [], rfl, Nat.zero_le _, Nat.le_refl _, fun i a hi => by simp at hi, by simp⟩
  · simp at hcs
    subst hcs
    have hlm : len ≤ m := by rw [hmm]; split <;> omega
    have each : ∀ i, i < len → ∃ x : α, AllOk ks (f x) ∧ w.cells? base (a.add (i * ks.length)) ks.length = some (f x) := by
      intro i hi
      obtain ⟨cs', h1, h2⟩ := hel i (by omega)
      have ok := flat_ok hf h2
      obtain ⟨x, rfl⟩ := hk cs' ok
      rw [hc] at h1
      exact ⟨x, ok, h1⟩
    have all : ∀ k, k ≤ len → ∃ l : List α, l.length = k ∧ (∀ a ∈ l, AllOk ks (f a)) ∧ ∀ i x, l[i]? = some x → w.cells? base (a.add (i * ks.length)) ks.length = some (f x) := by
      intro k
      induction k with
      | zero => intro _; exact ⟨[], rfl, by simp, fun i x hi => by simp at hi⟩
      | succ k ih =>
        intro hk
        obtain ⟨l, hl, ho, hc⟩ := ih (by omega)
        obtain ⟨x, ox, hx⟩ := each k (by omega)
        refine ⟨l ++ [x], by simp [hl], ?_, ?_⟩
        · intro y hy
          rcases List.mem_append.1 hy with hy | hy
          · exact ho y hy
          · simp at hy; subst hy; exact ox
        · intro i y hi
          by_cases e : i < l.length
          · rw [List.getElem?_append_left e] at hi
            exact hc i y hi
          · rw [List.getElem?_append_right (by omega)] at hi
            have : i = k := by
              have := (List.getElem?_eq_some_iff.1 hi).1
              simp at this; omega
            subst this
            rw [hl, Nat.sub_self] at hi
            simp at hi
            subst hi
            exact hx
    obtain ⟨l, hll, ho, hcl⟩ := all len (Nat.le_refl _)
    refine ⟨some a, cap, l, by rw [hll], by omega, by omega, ?_, ho⟩
    intro i x hi
    have hcells := hcl i x hi
    obtain ⟨_, hlen, hcell⟩ := World.cells?_some hcells
    have hlt := World.cells?_block hcells hpos
    obtain ⟨ab, ao, spot⟩ := a
    have hspot : spot = none := by
      have hl0 : 0 < l.length := Nat.lt_of_le_of_lt (Nat.zero_le _) (List.getElem?_eq_some_iff.1 hi).1
      have hc0 := hcl 0 l[0] (List.getElem?_eq_getElem hl0)
      obtain ⟨_, hn0, hcell0⟩ := World.cells?_some hc0
      have h0 := hcell0 0 hpos
      rw [List.getElem?_eq_getElem (by omega)] at h0
      have := World.cell?_spot h0
      simpa [Addr.add] using this
    subst hspot
    have hblk : ab < w.heap.size := by
      rw [Addr.add_lit] at hlt
      exact hlt
    refine ⟨ab, ao, rfl, hblk, fun j u hu => ?_⟩
    have hj : j < ks.length := by rw [← hlen]; exact (List.getElem?_eq_some_iff.1 hu).1
    have := hcell j hj
    rw [Addr.add_lit, Addr.add_lit, hu] at this
    exact this
end

theorem tb_of (cs : List Value) (h : AllOk [.bool] cs) : ∃ a, cs = tbEnc a := by
  match cs, h with
  | [_], ⟨⟨b, rfl⟩, _⟩ => exact ⟨b, rfl⟩
theorem two_leaf {k : IntKind} {a b : Value} (ha : (Leaf.int k).ok a) (hb : (Leaf.int k).ok b) : ∃ p : Int × Int, a = .int k p.1 ∧ b = .int k p.2 := by
  obtain ⟨x, rfl, _⟩ := ha
  obtain ⟨y, rfl, _⟩ := hb
  exact ⟨(x, y), rfl, rfl⟩
theorem tv_of (cs : List Value) (h : AllOk [.int .i64, .int .i64] cs) : ∃ a, cs = tvEnc a := by
  have hl := h.length
  obtain ⟨c0, c1, rfl⟩ : ∃ c0 c1, cs = [c0, c1] := by
    match cs, hl with
    | [a, b], _ => exact ⟨a, b, rfl⟩
  obtain ⟨p, e1, e2⟩ := two_leaf h.1 h.2.1
  rw [e1, e2]
  exact ⟨p, rfl⟩
theorem i64_wf {a : Int} (h : (Lit.int .i64 a).wf = true) : -9223372036854775808 ≤ a ∧ a < 9223372036854775808 := by
  simp [Lit.wf, IntKind.min, IntKind.max, IntKind.bits, IntKind.signed] at h; omega
/-- a map that came in -/
structure MapIn (m : Ti.M) (oa : Option Addr) (ca : Nat) (ob : Option Addr) (cb : Nat) (w : World) : Prop where
  ws : RowOf 1 tbEnc oa m.ws w
  sp : RowOf 2 tvEnc ob m.sp w
  wW : -9223372036854775808 ≤ m.W ∧ m.W < 9223372036854775808
  wH : -9223372036854775808 ≤ m.H ∧ m.H < 9223372036854775808
  mw : m.ws.length ≤ maxLen
  ms : m.sp.length ≤ maxLen
theorem MapIn.at {m : Ti.M} {oa : Option Addr} {ca : Nat} {ob : Option Addr} {cb : Nat} {w : World} (h : MapIn m oa ca ob cb w) (h1 : m.ws.length ≤ 1100) (h2 : m.sp.length ≤ 1100) : MapAt m oa ob w :=
  ⟨h.ws, h.sp, h1, h2, h.wW, h.wH⟩
set_option maxRecDepth 20000 in
theorem open_map {H : Type} {enc : TypeId × Value → H} {W : World} {base : Nat} {v : Value} {d : DataW H} {p : List MemPlace}
    (hval : Value.okWide Try.prog W .any base 25 v) (h : DataW.Trod enc Try.prog W 0 (fun _ => true) true 25 v d p) :
    ∃ (m : Ti.M) (oa : Option Addr) (ca : Nat) (ob : Option Addr) (cb : Nat), v = mapVal m oa ca ob cb ∧ MapIn m oa ca ob cb W := by
  obtain ⟨v0, v1, v2, v3, y0, y1, y2, y3, n, rfl, _, _, g0, g1, g2, g3⟩ := Go.Joins.open_agg4 Try.underlying25 (by kernel_rfl) (by kernel_rfl) hval h
  obtain ⟨a0, e0, _, w0⟩ := DataW.trod_int Try.underlying3 g0
  obtain ⟨a1, e1, _, w1⟩ := DataW.trod_int Try.underlying3 g1
  obtain ⟨oa, ca, l, rfl, q1, q2, q3, _⟩ := flats_in (d := 8) (ks := [.bool]) tbEnc Try.underlying22 (by kernel_rfl) (by kernel_rfl) (by decide) tb_of g2
  obtain ⟨ob, cb, k, rfl, r1, r2, r3, _⟩ := flats_in (d := 8) (ks := [.int .i64, .int .i64]) tvEnc Try.underlying23 (by kernel_rfl) (by kernel_rfl) (by decide) tv_of g3
  simp at e0 e1
  subst e0 e1
  exact ⟨⟨a0, a1, l, k⟩, oa, ca, ob, cb, rfl, q3, r3, i64_wf w0, i64_wf w1, q1, r1⟩

end Go.Proofs.Ytgabgkgokmeaeaa


/- Worlds in memory: what a world's seven cells tell, where its entities lie; what is done, in memory. -/
namespace Go.Proofs.Ytgabgkgokmeaeaa
open Go.RowKit
set_option linter.unusedVariables false
set_option linter.unusedSimpArgs false

/-- a world's cells -/
structure WV where
  mw : Int
  mh : Int
  oa : Option Addr
  nw : Nat
  ca : Nat
  ob : Option Addr
  ns : Nat
  cb : Nat
  st : Int
  tk : Int
  ol : Option Addr
  nl : Nat
  cl : Nat
def wvEnc (V : WV) : List Value := [.int .i64 V.mw, .int .i64 V.mh, .slice V.oa V.nw V.ca, .slice V.ob V.ns V.cb, .int .u64 V.st, .int .i64 V.tk, .slice V.ol V.nl V.cl]
abbrev wvVal (V : WV) : Value := .agg #[.int .i64 V.mw, .int .i64 V.mh, .slice V.oa V.nw V.ca, .slice V.ob V.ns V.cb, .int .u64 V.st, .int .i64 V.tk, .slice V.ol V.nl V.cl]
abbrev wzEnc : List Value := [.int .i64 0, .int .i64 0, .slice none 0 0, .slice none 0 0, .int .u64 0, .int .i64 0, .slice none 0 0]
/-- these cells tell this world -/
structure Tells (W : Wd.W) (V : WV) (w : World) : Prop where
  mw : V.mw = W.m.W
  mh : V.mh = W.m.H
  nw : V.nw = W.m.ws.length
  ns : V.ns = W.m.sp.length
  st : V.st = (W.st : Int)
  tk : V.tk = W.tick
  nl : V.nl = W.l.length
  map : MapAt W.m V.oa V.ob w
  row : RowOf 8 enEnc V.ol W.l w
theorem Tells.calm {W : Wd.W} {V : WV} {w w' : World} (h : Tells W V w) (ht : Turned [] w w') : Tells W V w' :=
  ⟨h.mw, h.mh, h.nw, h.ns, h.st, h.tk, h.nl, h.map.calm ht, h.row.turned ht (by simp)⟩
/-- block k holds what they tell -/
def WV.At (V : WV) (k : Nat) : Prop := (0 < V.nw ∧ ∃ a, V.oa = some a ∧ a.block = k) ∨ (0 < V.ns ∧ ∃ a, V.ob = some a ∧ a.block = k) ∨ (0 < V.nl ∧ ∃ a, V.ol = some a ∧ a.block = k)
theorem row_block {α : Type} {sz : Nat} {f : α → List Value} {oa : Option Addr} {l : List α} {w : World} (h : RowOf sz f oa l w) (hn : 0 < l.length) {a : Addr} (ha : oa = some a) : a.block < w.heap.size := by
  obtain ⟨x, hx⟩ : ∃ x, l[0]? = some x := ⟨_, List.getElem?_eq_getElem hn⟩
  obtain ⟨g, off, ho, hg, _⟩ := h 0 x hx
  rw [ha] at ho
  simp at ho
  rw [ho]
  exact hg
theorem row_turned {α : Type} {sz : Nat} {f : α → List Value} {oa : Option Addr} {l : List α} {w w' : World} {S : List Nat} (h : RowOf sz f oa l w) (ht : Turned S w w') (hd : 0 < l.length → ∀ a, oa = some a → a.block ∉ S) : RowOf sz f oa l w' := by
  by_cases hn : 0 < l.length
  · exact h.turned ht (hd hn)
  · intro k e hk
    have : l = [] := List.length_eq_zero_iff.1 (by omega)
    subst this
    simp at hk
theorem Tells.lt {W : Wd.W} {V : WV} {w : World} (h : Tells W V w) {k : Nat} (hk : V.At k) : k < w.heap.size := by
  rcases hk with ⟨hn, a, ha, rfl⟩ | ⟨hn, a, ha, rfl⟩ | ⟨hn, a, ha, rfl⟩
  · exact row_block h.map.ws (by rw [← h.nw]; exact hn) ha
  · exact row_block h.map.sp (by rw [← h.ns]; exact hn) ha
  · exact row_block h.row (by rw [← h.nl]; exact hn) ha
theorem Tells.turned {W : Wd.W} {V : WV} {w w' : World} {S : List Nat} (h : Tells W V w) (ht : Turned S w w') (hd : ∀ k, V.At k → k ∉ S) : Tells W V w' :=
  ⟨h.mw, h.mh, h.nw, h.ns, h.st, h.tk, h.nl,
    ⟨row_turned h.map.ws ht fun hn a ha => hd _ (.inl ⟨by rw [h.nw]; exact hn, a, ha, rfl⟩), row_turned h.map.sp ht fun hn a ha => hd _ (.inr (.inl ⟨by rw [h.ns]; exact hn, a, ha, rfl⟩)), h.map.lw, h.map.ls, h.map.wW, h.map.wH⟩,
    row_turned h.row ht fun hn a ha => hd _ (.inr (.inr ⟨by rw [h.nl]; exact hn, a, ha, rfl⟩))⟩
theorem Tells.zero (w : World) : Tells Wd.zero ⟨0, 0, none, 0, 0, none, 0, 0, 0, 0, none, 0, 0⟩ w :=
  ⟨rfl, rfl, rfl, rfl, rfl, rfl, rfl, ⟨fun k e h => by simp [Wd.zero] at h, fun k e h => by simp [Wd.zero] at h, by simp [Wd.zero], by simp [Wd.zero], by simp [Wd.zero], by simp [Wd.zero]⟩, fun k e h => by simp [Wd.zero] at h⟩
abbrev put7 (w : World) (p : Nat) (V : WV) : World := ((((((w.setCell ⟨p, 0, none⟩ (.int .i64 V.mw)).setCell ⟨p, 1, none⟩ (.int .i64 V.mh)).setCell ⟨p, 2, none⟩ (.slice V.oa V.nw V.ca)).setCell ⟨p, 3, none⟩ (.slice V.ob V.ns V.cb)).setCell ⟨p, 4, none⟩ (.int .u64 V.st)).setCell ⟨p, 5, none⟩ (.int .i64 V.tk)).setCell ⟨p, 6, none⟩ (.slice V.ol V.nl V.cl)
theorem set7 {p : Nat} {cs : List Value} {w : World} (h : Struct p cs w) (hl : cs.length = 7) (V : WV) : Struct p (wvEnc V) (put7 w p V) := by
  obtain ⟨c0, c1, c2, c3, c4, c5, c6, rfl⟩ : ∃ c0 c1 c2 c3 c4 c5 c6, cs = [c0, c1, c2, c3, c4, c5, c6] := by
    match cs, hl with
    | [a, b, c, d, e, f, g], _ => exact ⟨a, b, c, d, e, f, g, rfl⟩
  exact ((((((h.set (i := 0) (by simp) _).set (i := 1) (by simp) _).set (i := 2) (by simp) _).set (i := 3) (by simp) _).set (i := 4) (by simp) _).set (i := 5) (by simp) _).set (i := 6) (by simp) _
theorem turned7 {S : List Nat} {w w' : World} {p : Nat} (h : Turned S w w') (hp : p ∈ S ∨ w.heap.size ≤ p) (V : WV) : Turned S w (put7 w' p V) :=
  ((((((h.setCell (p := ⟨p, 0, none⟩) hp _).setCell (p := ⟨p, 1, none⟩) hp _).setCell (p := ⟨p, 2, none⟩) hp _).setCell (p := ⟨p, 3, none⟩) hp _).setCell (p := ⟨p, 4, none⟩) hp _).setCell (p := ⟨p, 5, none⟩) hp _).setCell (p := ⟨p, 6, none⟩) hp _
theorem wvEnc_len {l : List WV} : ∀ a ∈ l, (wvEnc a).length = 7 := fun _ _ => rfl
theorem wvEnc_one {l : List WV} : ∀ a ∈ l, ∀ u ∈ wvEnc a, u.oneCell' = true := by
  intro a _ u hu
  simp [wvEnc] at hu
  rcases hu with rfl | rfl | rfl | rfl | rfl | rfl | rfl <;> rfl

namespace Wd
/-- what is done -/
structure O where
  k : Int
  id : Int
  b : Int
  c : Cm.C
def act (w : W) (o : O) : W := if o.k = 1 then join w o.id else if o.k = 2 then leave w o.id else if o.k = 3 then hit w o.id o.b else if o.k = 4 then go w o.c o.id else if o.k = 5 then tick w else w
def actE (w : W) (o : O) : Int := if o.k = 1 then joinE w o.id else if o.k = 2 then leaveE w o.id else 0
def O.wf (o : O) : Prop := En.I64 o.k ∧ En.I64 o.id ∧ En.I64 o.b ∧ o.c.wf
theorem gd_act {w : W} (h : Gd w) {o : O} (ho : o.wf) : Gd (act w o) := by
  unfold act
  split
  · exact gd_join h _
  · split
    · exact gd_leave h _
    · split
      · exact gd_hit h _ _
      · split
        · exact gd_go h ho.2.2.2 _
        · split
          · exact gd_tick h
          · exact h
theorem act_m (w : W) (o : O) : (act w o).m = w.m := by
  unfold act join hit go tick leave
  (repeat' split) <;> rfl
theorem act_tick {w : W} {o : O} {n : Int} (h : 0 ≤ w.tick ∧ w.tick ≤ n) : 0 ≤ (act w o).tick ∧ (act w o).tick ≤ n + 1 := by
  have : (act w o).tick = w.tick ∨ (act w o).tick = w.tick + 1 := by
    unfold act join hit go leave
    (repeat' split) <;> first | exact .inl rfl | exact .inr rfl
  omega
theorem act_apart (w : W) (o : O) (h : o.k = 3 ∨ o.k = 4) : (act w o).st = w.st ∧ (act w o).tick = w.tick ∧ (act w o).l.length = w.l.length ∧ ∀ (k : Nat) (a : En.E), w.l[k]? = some a → ∃ d, (act w o).l[k]? = some d ∧ (d = a ∨ (d.id = o.id ∧ d.kind = 1)) := by
  unfold act
  rcases h with h | h
  · rw [h]; exact hit_at w o.id o.b
  · rw [h]; exact go_at w o.c o.id
end Wd
/-- its cells -/
def woEnc (o : Wd.O) : List Value := [.int .i64 o.k, .int .i64 o.id, .int .i64 o.b, .int .u32 (o.c.n : Int), .int .i8 o.c.x, .int .i8 o.c.y, .bool o.c.f, .int .u32 (o.c.v : Int), .int .u8 (o.c.q : Int)]
abbrev woVal (o : Wd.O) : Value := .agg #[.int .i64 o.k, .int .i64 o.id, .int .i64 o.b, .int .u32 (o.c.n : Int), .int .i8 o.c.x, .int .i8 o.c.y, .bool o.c.f, .int .u32 (o.c.v : Int), .int .u8 (o.c.q : Int)]
theorem wo_leaf {k : IntKind} {v : Value} (h : (Leaf.int k).ok v) : ∃ z, v = .int k z ∧ (Lit.int k z).wf = true := h
theorem wo_ok {k : IntKind} {z : Int} (h : (Leaf.int k).ok (.int k z)) : (Lit.int k z).wf = true := by
  obtain ⟨y, hy, hw⟩ := h
  rw [(Value.int.inj hy).2]
  exact hw
theorem wo_u32 {a : Int} (h : (Lit.int .u32 a).wf = true) : 0 ≤ a ∧ a < 4294967296 := by
  simp [Lit.wf, IntKind.min, IntKind.max, IntKind.bits, IntKind.signed] at h; omega
theorem wo_u8 {a : Int} (h : (Lit.int .u8 a).wf = true) : 0 ≤ a ∧ a < 256 := by
  simp [Lit.wf, IntKind.min, IntKind.max, IntKind.bits, IntKind.signed] at h; omega
theorem wo_i8 {a : Int} (h : (Lit.int .i8 a).wf = true) : -128 ≤ a ∧ a < 128 := by
  simp [Lit.wf, IntKind.min, IntKind.max, IntKind.bits, IntKind.signed] at h; omega
theorem wo_i64 {a : Int} (h : (Lit.int .i64 a).wf = true) : En.I64 a := by
  simp [Lit.wf, IntKind.min, IntKind.max, IntKind.bits, IntKind.signed] at h; unfold En.I64; omega
theorem wo_u64 {a : Int} (h : (Lit.int .u64 a).wf = true) : ∃ n : Nat, a = (n : Int) ∧ n < 18446744073709551616 := by
  simp [Lit.wf, IntKind.min, IntKind.max, IntKind.bits, IntKind.signed] at h; exact ⟨a.toNat, by omega, by omega⟩
theorem woEnc_of (cs : List Value) (h : AllOk [.int .i64, .int .i64, .int .i64, .int .u32, .int .i8, .int .i8, .bool, .int .u32, .int .u8] cs) : ∃ a, cs = woEnc a := by
  have hl := h.length
  obtain ⟨d0, d1, d2, c0, c1, c2, c3, c4, c5, rfl⟩ : ∃ d0 d1 d2 c0 c1 c2 c3 c4 c5, cs = [d0, d1, d2, c0, c1, c2, c3, c4, c5] := by
    match cs, hl with
    | [x, y, z, a, b, c, d, e, f], _ => exact ⟨x, y, z, a, b, c, d, e, f, rfl⟩
  obtain ⟨y0, f0, _⟩ := wo_leaf h.1
  obtain ⟨y1, f1, _⟩ := wo_leaf h.2.1
  obtain ⟨y2, f2, _⟩ := wo_leaf h.2.2.1
  obtain ⟨x0, e0, k0⟩ := wo_leaf h.2.2.2.1
  obtain ⟨x1, e1, _⟩ := wo_leaf h.2.2.2.2.1
  obtain ⟨x2, e2, _⟩ := wo_leaf h.2.2.2.2.2.1
  obtain ⟨x3, e3⟩ : ∃ b, c3 = .bool b := h.2.2.2.2.2.2.1
  obtain ⟨x4, e4, k4⟩ := wo_leaf h.2.2.2.2.2.2.2.1
  obtain ⟨x5, e5, k5⟩ := wo_leaf h.2.2.2.2.2.2.2.2.1
  have n0 := wo_u32 k0
  have n4 := wo_u32 k4
  have n5 := wo_u8 k5
  refine ⟨⟨y0, y1, y2, ⟨x0.toNat, x1, x2, x3, x4.toNat, x5.toNat⟩⟩, ?_⟩
  show _ = [Value.int .i64 y0, .int .i64 y1, .int .i64 y2, .int .u32 ((x0.toNat : Nat) : Int), .int .i8 x1, .int .i8 x2, .bool x3, .int .u32 ((x4.toNat : Nat) : Int), .int .u8 ((x5.toNat : Nat) : Int)]
  rw [f0, f1, f2, e0, e1, e2, e3, e4, e5, Int.toNat_of_nonneg n0.1, Int.toNat_of_nonneg n4.1, Int.toNat_of_nonneg n5.1]
theorem wo_wf {o : Wd.O} (h : AllOk [.int .i64, .int .i64, .int .i64, .int .u32, .int .i8, .int .i8, .bool, .int .u32, .int .u8] (woEnc o)) : o.wf := by
  have b0 := wo_i64 (wo_ok h.1)
  have b1 := wo_i64 (wo_ok h.2.1)
  have b2 := wo_i64 (wo_ok h.2.2.1)
  have a0 := wo_u32 (wo_ok h.2.2.2.1)
  have a1 := wo_i8 (wo_ok h.2.2.2.2.1)
  have a2 := wo_i8 (wo_ok h.2.2.2.2.2.1)
  have a4 := wo_u32 (wo_ok h.2.2.2.2.2.2.2.1)
  have a5 := wo_u8 (wo_ok h.2.2.2.2.2.2.2.2.1)
  exact ⟨b0, b1, b2, by omega, a1.1, a1.2, a2.1, a2.2, by omega, by omega⟩
end Go.Proofs.Ytgabgkgokmeaeaa


/- What the laws of layer 13 lean on: what the program's functions answer (WdW.Contracts), and what the laws' act answers. -/
namespace Go.Proofs.Ytgabgkgokmeaeaa
open Go.RowKit
set_option linter.unusedVariables false
set_option linter.unusedSimpArgs false

namespace WdW
/-- what the program's functions of layer 13 answer, of worlds that came about -/
structure Contracts : Prop where
  new : ∀ (m : Ti.M) (oa : Option Addr) (ca : Nat) (ob : Option Addr) (cb : Nat) (s : Nat) (n : Int), s < 18446744073709551616 → En.I64 n → ∀ (w : World), MapAt m oa ob w →
    Calls Try.prog 7 #[mapVal m oa ca ob cb, .int .u64 (s : Int), .int .i64 n] w fun e w' => ∃ V, e = .returned (.tuple #[wvVal V, .int .i64 (Wd.newE m n)]) ∧ Tells (Wd.newW m s n) V w' ∧ (∀ k, V.At k → (∃ a, oa = some a ∧ a.block = k) ∨ (∃ a, ob = some a ∧ a.block = k) ∨ w.heap.size ≤ k) ∧ Turned [] w w'
  join : ∀ (W : Wd.W) (V : WV) (id : Int), Wd.Gd W → En.I64 id → ∀ (w : World), Tells W V w →
    Calls Try.prog 14 #[wvVal V, .int .i64 id] w fun e w' => ∃ V', e = .returned (.tuple #[wvVal V', .int .i64 (Wd.joinE W id)]) ∧ Tells (Wd.join W id) V' w' ∧ (∀ k, V'.At k → V.At k ∨ w.heap.size ≤ k) ∧ Turned [] w w'
  leave : ∀ (W : Wd.W) (V : WV) (id : Int), Wd.Gd W → En.I64 id → ∀ (w : World), Tells W V w →
    Calls Try.prog 15 #[wvVal V, .int .i64 id] w fun e w' => ∃ V', e = .returned (.tuple #[wvVal V', .int .i64 (Wd.leaveE W id)]) ∧ Tells (Wd.leave W id) V' w' ∧ (∀ k, V'.At k → V.At k ∨ w.heap.size ≤ k) ∧ Turned [] w w'
  hit : ∀ (W : Wd.W) (V : WV) (id b : Int), Wd.Gd W → En.I64 id → En.I64 b → ∀ (w : World), Tells W V w →
    Calls Try.prog 16 #[wvVal V, .int .i64 id, .int .i64 b] w fun e w' => ∃ V', e = .returned (wvVal V') ∧ Tells (Wd.hit W id b) V' w' ∧ (∀ k, V'.At k → V.At k ∨ w.heap.size ≤ k) ∧ Turned [] w w'
  go : ∀ (W : Wd.W) (V : WV) (c : Cm.C) (id : Int), Wd.Gd W → c.wf → En.I64 id → ∀ (w : World), Tells W V w →
    Calls Try.prog 17 #[wvVal V, cmVal c, .int .i64 id] w fun e w' => ∃ V', e = .returned (wvVal V') ∧ Tells (Wd.go W c id) V' w' ∧ (∀ k, V'.At k → V.At k ∨ w.heap.size ≤ k) ∧ Turned [] w w'
  tick : ∀ (W : Wd.W) (V : WV), Wd.Gd W → (0 ≤ W.tick ∧ W.tick ≤ 4611686018427387904) → ∀ (w : World), Tells W V w →
    Calls Try.prog 9 #[wvVal V] w fun e w' => ∃ V', e = .returned (wvVal V') ∧ Tells (Wd.tick W) V' w' ∧ (∀ k, V'.At k → V.At k ∨ w.heap.size ≤ k) ∧ Turned [] w w'

end WdW

namespace WdL
set_option maxRecDepth 20000 in
set_option maxHeartbeats 8000000 in
theorem act_any (K : WdW.Contracts) (W : Wd.W) (V : WV) (o : Wd.O) (hG : Wd.Gd W) (ho : o.wf) (ht : 0 ≤ W.tick ∧ W.tick ≤ 4611686018427387904) (w : World) (hV : Tells W V w) :
    Calls Try.prog 8 #[wvVal V, woVal o] w fun e w' => ∃ V', e = .returned (.tuple #[wvVal V', .int .i64 (Wd.actE W o)]) ∧ Tells (Wd.act W o) V' w' ∧ (∀ k, V'.At k → V.At k ∨ w.heap.size ≤ k) ∧ Turned [] w w' := by
  obtain ⟨W0, hW0⟩ : ∃ W0, W0 = ((w.alloc (.cells #[.int .i64 V.mw, .int .i64 V.mh, .slice V.oa V.nw V.ca, .slice V.ob V.ns V.cb, .int .u64 V.st, .int .i64 V.tk, .slice V.ol V.nl V.cl] 34)).alloc (.cells #[.int .i64 o.k, .int .i64 o.id, .int .i64 o.b, .int .u32 (o.c.n : Int), .int .i8 o.c.x, .int .i8 o.c.y, .bool o.c.f, .int .u32 (o.c.v : Int), .int .u8 (o.c.q : Int)] 43)).alloc (.cells #[.int .i64 0, .int .i64 0, .slice none 0 0, .slice none 0 0, .int .u64 0, .int .i64 0, .slice none 0 0] 34) := ⟨_, rfl⟩
  obtain ⟨B, hB⟩ : ∃ b, b = w.heap.size := ⟨_, rfl⟩
  obtain ⟨C, hC⟩ : ∃ b, b = w.heap.size + 1 := ⟨_, rfl⟩
  obtain ⟨D, hD⟩ : ∃ b, b = w.heap.size + 1 + 1 := ⟨_, rfl⟩
  have hT : Turned [] w W0 := by rw [hW0]; exact (((Turned.refl [] w).alloc _).alloc _).alloc _
  have hS : Struct B [.int .i64 V.mw, .int .i64 V.mh, .slice V.oa V.nw V.ca, .slice V.ob V.ns V.cb, .int .u64 V.st, .int .i64 V.tk, .slice V.ol V.nl V.cl] W0 := by
    have h0 := Struct.new w [.int .i64 V.mw, .int .i64 V.mh, .slice V.oa V.nw V.ca, .slice V.ob V.ns V.cb, .int .u64 V.st, .int .i64 V.tk, .slice V.ol V.nl V.cl] 34
    rw [← hB] at h0
    rw [hW0]; exact ((h0.keep ((Turned.refl [] _).alloc _) (by simp)).keep ((Turned.refl [] _).alloc _) (by simp))
  have hO : Struct C [.int .i64 o.k, .int .i64 o.id, .int .i64 o.b, .int .u32 (o.c.n : Int), .int .i8 o.c.x, .int .i8 o.c.y, .bool o.c.f, .int .u32 (o.c.v : Int), .int .u8 (o.c.q : Int)] W0 := by
    have h0 := Struct.new (w.alloc (.cells #[.int .i64 V.mw, .int .i64 V.mh, .slice V.oa V.nw V.ca, .slice V.ob V.ns V.cb, .int .u64 V.st, .int .i64 V.tk, .slice V.ol V.nl V.cl] 34)) [.int .i64 o.k, .int .i64 o.id, .int .i64 o.b, .int .u32 (o.c.n : Int), .int .i8 o.c.x, .int .i8 o.c.y, .bool o.c.f, .int .u32 (o.c.v : Int), .int .u8 (o.c.q : Int)] 43
    rw [show (w.alloc (.cells #[.int .i64 V.mw, .int .i64 V.mh, .slice V.oa V.nw V.ca, .slice V.ob V.ns V.cb, .int .u64 V.st, .int .i64 V.tk, .slice V.ol V.nl V.cl] 34)).heap.size = w.heap.size + 1 by simp, ← hC] at h0
    rw [hW0]; exact (h0.keep ((Turned.refl [] _).alloc _) (by simp))
  have hR : Struct D [.int .i64 0, .int .i64 0, .slice none 0 0, .slice none 0 0, .int .u64 0, .int .i64 0, .slice none 0 0] W0 := by
    have h0 := Struct.new ((w.alloc (.cells #[.int .i64 V.mw, .int .i64 V.mh, .slice V.oa V.nw V.ca, .slice V.ob V.ns V.cb, .int .u64 V.st, .int .i64 V.tk, .slice V.ol V.nl V.cl] 34)).alloc (.cells #[.int .i64 o.k, .int .i64 o.id, .int .i64 o.b, .int .u32 (o.c.n : Int), .int .i8 o.c.x, .int .i8 o.c.y, .bool o.c.f, .int .u32 (o.c.v : Int), .int .u8 (o.c.q : Int)] 43)) [.int .i64 0, .int .i64 0, .slice none 0 0, .slice none 0 0, .int .u64 0, .int .i64 0, .slice none 0 0] 34
    rw [show ((w.alloc (.cells #[.int .i64 V.mw, .int .i64 V.mh, .slice V.oa V.nw V.ca, .slice V.ob V.ns V.cb, .int .u64 V.st, .int .i64 V.tk, .slice V.ol V.nl V.cl] 34)).alloc (.cells #[.int .i64 o.k, .int .i64 o.id, .int .i64 o.b, .int .u32 (o.c.n : Int), .int .i8 o.c.x, .int .i8 o.c.y, .bool o.c.f, .int .u32 (o.c.v : Int), .int .u8 (o.c.q : Int)] 43)).heap.size = w.heap.size + 1 + 1 by simp, ← hD] at h0
    rw [hW0]; exact h0
  have hBw : w.heap.size ≤ B := by omega
  have hCw : w.heap.size ≤ C := by omega
  have hDw : w.heap.size ≤ D := by omega
  have nBC : B ≠ C := by omega
  have nBD : B ≠ D := by omega
  have nCD : C ≠ D := by omega
  have hVW := hV.calm hT
  have hVD : ¬ V.At D := fun h => by have := hV.lt h; omega
  have c0 := (hS.2 0 _ rfl).1; have c1 := (hS.2 1 _ rfl).1; have c2 := (hS.2 2 _ rfl).1; have c3 := (hS.2 3 _ rfl).1; have c4 := (hS.2 4 _ rfl).1; have c5 := (hS.2 5 _ rfl).1; have c6 := (hS.2 6 _ rfl).1
  have p0 := (hO.2 0 _ rfl).1; have p1 := (hO.2 1 _ rfl).1; have p2 := (hO.2 2 _ rfl).1; have p3 := (hO.2 3 _ rfl).1; have p4 := (hO.2 4 _ rfl).1; have p5 := (hO.2 5 _ rfl).1; have p6 := (hO.2 6 _ rfl).1; have p7 := (hO.2 7 _ rfl).1; have p8 := (hO.2 8 _ rfl).1
  have z0 := (hR.2 0 _ rfl).1; have y0 := (hR.2 0 _ rfl).2; have z1 := (hR.2 1 _ rfl).1; have y1 := (hR.2 1 _ rfl).2; have z2 := (hR.2 2 _ rfl).1; have y2 := (hR.2 2 _ rfl).2; have z3 := (hR.2 3 _ rfl).1; have y3 := (hR.2 3 _ rfl).2; have z4 := (hR.2 4 _ rfl).1; have y4 := (hR.2 4 _ rfl).2; have z5 := (hR.2 5 _ rfl).1; have y5 := (hR.2 5 _ rfl).2; have z6 := (hR.2 6 _ rfl).1; have y6 := (hR.2 6 _ rfl).2
  by_cases h1 : o.k = 1
  · have HA : Hid (Wd.act W o = Wd.join W o.id ∧ Wd.actE W o = Wd.joinE W o.id) := by
      show _ ∧ _
      unfold Wd.act Wd.actE
      rw [h1]
      exact ⟨by simp, by simp⟩
    have hk := K.join W V o.id hG ho.2.1
    have i1 : (o.k == 1) = true := by rw [beq_iff_eq]; exact h1
    obtain ⟨er, her⟩ : ∃ e, e = Wd.joinE W o.id := ⟨_, rfl⟩
    rw [← her] at hk
    have HE : Hid (er = Wd.joinE W o.id) := her
    clear her
    clear hG ho ht K h1
    go_enter Try.func8, Try.ntmps8
    go_wp2_with fail
    rw [← hW0, ← hD, ← hC, ← hB]
    clear hW0 hB hC hD
    go_wp2_with (go_at_call 14; (with_reducible refine (hk _ hVW).mono ?_); rintro r u0 ⟨V1, rfl, hV1, hA1, HT1⟩; have hR1 := hR.keep HT1 (by simp); have z0 := (hR1.2 0 _ rfl).1; have y0 := (hR1.2 0 _ rfl).2; have z1 := (hR1.2 1 _ rfl).1; have y1 := (hR1.2 1 _ rfl).2; have z2 := (hR1.2 2 _ rfl).1; have y2 := (hR1.2 2 _ rfl).2; have z3 := (hR1.2 3 _ rfl).1; have y3 := (hR1.2 3 _ rfl).2; have z4 := (hR1.2 4 _ rfl).1; have y4 := (hR1.2 4 _ rfl).2; have z5 := (hR1.2 5 _ rfl).1; have y5 := (hR1.2 5 _ rfl).2; have z6 := (hR1.2 6 _ rfl).1; have y6 := (hR1.2 6 _ rfl).2)
    obtain ⟨W9, hW9⟩ : ∃ W9, W9 = put7 u0 D V1 := ⟨_, rfl⟩
    have hS9 : Struct D (wvEnc V1) W9 := by rw [hW9]; exact set7 hR1 rfl _
    have hT9 : Turned [] w W9 := by rw [hW9]; exact turned7 (hT.trans HT1 (by simp)) (.inr hDw) _
    have hD9 : Turned [D] u0 W9 := by rw [hW9]; exact turned7 (Turned.refl [D] _) (.inl (by simp)) _
    simp only [put7] at hW9
    rw [← hW9]
    have e0 := (hS9.2 0 _ rfl).1
    have e1 := (hS9.2 1 _ rfl).1
    have e2 := (hS9.2 2 _ rfl).1
    have e3 := (hS9.2 3 _ rfl).1
    have e4 := (hS9.2 4 _ rfl).1
    have e5 := (hS9.2 5 _ rfl).1
    have e6 := (hS9.2 6 _ rfl).1
    have hno : ¬ V1.At D := fun h => (hA1 D h).elim hVD (by have := hR.1; omega)
    have hTl := hV1.turned hD9 (fun k hk => by simp; rintro rfl; exact hno hk)
    exact bodyPost_ret (v := .tuple #[wvVal V1, .int .i64 er]) (by simp [results, Try.results8, go_sem, e0, e1, e2, e3, e4, e5, e6]) rfl ⟨V1, by rw [HA.out.2, HE.out], by rw [HA.out.1]; exact hTl, fun k hk => (hA1 k hk).imp_right (fun h => Nat.le_trans hT.size h), hT9⟩
  · by_cases h2 : o.k = 2
    · have HA : Hid (Wd.act W o = Wd.leave W o.id ∧ Wd.actE W o = Wd.leaveE W o.id) := by
        show _ ∧ _
        unfold Wd.act Wd.actE
        rw [h2]
        exact ⟨by simp, by simp⟩
      have hk := K.leave W V o.id hG ho.2.1
      have i1 : (o.k == 1) = false := by rw [beq_eq_false_iff_ne]; exact h1
      have i2 : (o.k == 2) = true := by rw [beq_iff_eq]; exact h2
      obtain ⟨er, her⟩ : ∃ e, e = Wd.leaveE W o.id := ⟨_, rfl⟩
      rw [← her] at hk
      have HE : Hid (er = Wd.leaveE W o.id) := her
      clear her
      clear hG ho ht K h1 h2
      go_enter Try.func8, Try.ntmps8
      go_wp2_with fail
      rw [← hW0, ← hD, ← hC, ← hB]
      clear hW0 hB hC hD
      go_wp2_with (go_at_call 15; (with_reducible refine (hk _ hVW).mono ?_); rintro r u0 ⟨V1, rfl, hV1, hA1, HT1⟩; have hR1 := hR.keep HT1 (by simp); have z0 := (hR1.2 0 _ rfl).1; have y0 := (hR1.2 0 _ rfl).2; have z1 := (hR1.2 1 _ rfl).1; have y1 := (hR1.2 1 _ rfl).2; have z2 := (hR1.2 2 _ rfl).1; have y2 := (hR1.2 2 _ rfl).2; have z3 := (hR1.2 3 _ rfl).1; have y3 := (hR1.2 3 _ rfl).2; have z4 := (hR1.2 4 _ rfl).1; have y4 := (hR1.2 4 _ rfl).2; have z5 := (hR1.2 5 _ rfl).1; have y5 := (hR1.2 5 _ rfl).2; have z6 := (hR1.2 6 _ rfl).1; have y6 := (hR1.2 6 _ rfl).2)
      obtain ⟨W9, hW9⟩ : ∃ W9, W9 = put7 u0 D V1 := ⟨_, rfl⟩
      have hS9 : Struct D (wvEnc V1) W9 := by rw [hW9]; exact set7 hR1 rfl _
      have hT9 : Turned [] w W9 := by rw [hW9]; exact turned7 (hT.trans HT1 (by simp)) (.inr hDw) _
      have hD9 : Turned [D] u0 W9 := by rw [hW9]; exact turned7 (Turned.refl [D] _) (.inl (by simp)) _
      simp only [put7] at hW9
      rw [← hW9]
      have e0 := (hS9.2 0 _ rfl).1
      have e1 := (hS9.2 1 _ rfl).1
      have e2 := (hS9.2 2 _ rfl).1
      have e3 := (hS9.2 3 _ rfl).1
      have e4 := (hS9.2 4 _ rfl).1
      have e5 := (hS9.2 5 _ rfl).1
      have e6 := (hS9.2 6 _ rfl).1
      have hno : ¬ V1.At D := fun h => (hA1 D h).elim hVD (by have := hR.1; omega)
      have hTl := hV1.turned hD9 (fun k hk => by simp; rintro rfl; exact hno hk)
      exact bodyPost_ret (v := .tuple #[wvVal V1, .int .i64 er]) (by simp [results, Try.results8, go_sem, e0, e1, e2, e3, e4, e5, e6]) rfl ⟨V1, by rw [HA.out.2, HE.out], by rw [HA.out.1]; exact hTl, fun k hk => (hA1 k hk).imp_right (fun h => Nat.le_trans hT.size h), hT9⟩
    · by_cases h3 : o.k = 3
      · have HA : Hid (Wd.act W o = Wd.hit W o.id o.b ∧ Wd.actE W o = 0) := by
          show _ ∧ _
          unfold Wd.act Wd.actE
          rw [h3]
          exact ⟨by simp, by simp⟩
        have hk := K.hit W V o.id o.b hG ho.2.1 ho.2.2.1
        have i1 : (o.k == 1) = false := by rw [beq_eq_false_iff_ne]; exact h1
        have i2 : (o.k == 2) = false := by rw [beq_eq_false_iff_ne]; exact h2
        have i3 : (o.k == 3) = true := by rw [beq_iff_eq]; exact h3
        clear hG ho ht K h1 h2 h3
        go_enter Try.func8, Try.ntmps8
        go_wp2_with fail
        rw [← hW0, ← hD, ← hC, ← hB]
        clear hW0 hB hC hD
        go_wp2_with (go_at_call 16; (with_reducible refine (hk _ hVW).mono ?_); rintro r u0 ⟨V1, rfl, hV1, hA1, HT1⟩; have hR1 := hR.keep HT1 (by simp); have z0 := (hR1.2 0 _ rfl).1; have y0 := (hR1.2 0 _ rfl).2; have z1 := (hR1.2 1 _ rfl).1; have y1 := (hR1.2 1 _ rfl).2; have z2 := (hR1.2 2 _ rfl).1; have y2 := (hR1.2 2 _ rfl).2; have z3 := (hR1.2 3 _ rfl).1; have y3 := (hR1.2 3 _ rfl).2; have z4 := (hR1.2 4 _ rfl).1; have y4 := (hR1.2 4 _ rfl).2; have z5 := (hR1.2 5 _ rfl).1; have y5 := (hR1.2 5 _ rfl).2; have z6 := (hR1.2 6 _ rfl).1; have y6 := (hR1.2 6 _ rfl).2)
        obtain ⟨W9, hW9⟩ : ∃ W9, W9 = put7 u0 D V1 := ⟨_, rfl⟩
        have hS9 : Struct D (wvEnc V1) W9 := by rw [hW9]; exact set7 hR1 rfl _
        have hT9 : Turned [] w W9 := by rw [hW9]; exact turned7 (hT.trans HT1 (by simp)) (.inr hDw) _
        have hD9 : Turned [D] u0 W9 := by rw [hW9]; exact turned7 (Turned.refl [D] _) (.inl (by simp)) _
        simp only [put7] at hW9
        rw [← hW9]
        have e0 := (hS9.2 0 _ rfl).1
        have e1 := (hS9.2 1 _ rfl).1
        have e2 := (hS9.2 2 _ rfl).1
        have e3 := (hS9.2 3 _ rfl).1
        have e4 := (hS9.2 4 _ rfl).1
        have e5 := (hS9.2 5 _ rfl).1
        have e6 := (hS9.2 6 _ rfl).1
        have hno : ¬ V1.At D := fun h => (hA1 D h).elim hVD (by have := hR.1; omega)
        have hTl := hV1.turned hD9 (fun k hk => by simp; rintro rfl; exact hno hk)
        exact bodyPost_ret (v := .tuple #[wvVal V1, .int .i64 0]) (by simp [results, Try.results8, go_sem, e0, e1, e2, e3, e4, e5, e6]) rfl ⟨V1, by rw [HA.out.2], by rw [HA.out.1]; exact hTl, fun k hk => (hA1 k hk).imp_right (fun h => Nat.le_trans hT.size h), hT9⟩
      · by_cases h4 : o.k = 4
        · have HA : Hid (Wd.act W o = Wd.go W o.c o.id ∧ Wd.actE W o = 0) := by
            show _ ∧ _
            unfold Wd.act Wd.actE
            rw [h4]
            exact ⟨by simp, by simp⟩
          have hk := K.go W V o.c o.id hG ho.2.2.2 ho.2.1
          have i1 : (o.k == 1) = false := by rw [beq_eq_false_iff_ne]; exact h1
          have i2 : (o.k == 2) = false := by rw [beq_eq_false_iff_ne]; exact h2
          have i3 : (o.k == 3) = false := by rw [beq_eq_false_iff_ne]; exact h3
          have i4 : (o.k == 4) = true := by rw [beq_iff_eq]; exact h4
          clear hG ho ht K h1 h2 h3 h4
          go_enter Try.func8, Try.ntmps8
          go_wp2_with fail
          rw [← hW0, ← hD, ← hC, ← hB]
          clear hW0 hB hC hD
          go_wp2_with (go_at_call 17; (with_reducible refine (hk _ hVW).mono ?_); rintro r u0 ⟨V1, rfl, hV1, hA1, HT1⟩; have hR1 := hR.keep HT1 (by simp); have z0 := (hR1.2 0 _ rfl).1; have y0 := (hR1.2 0 _ rfl).2; have z1 := (hR1.2 1 _ rfl).1; have y1 := (hR1.2 1 _ rfl).2; have z2 := (hR1.2 2 _ rfl).1; have y2 := (hR1.2 2 _ rfl).2; have z3 := (hR1.2 3 _ rfl).1; have y3 := (hR1.2 3 _ rfl).2; have z4 := (hR1.2 4 _ rfl).1; have y4 := (hR1.2 4 _ rfl).2; have z5 := (hR1.2 5 _ rfl).1; have y5 := (hR1.2 5 _ rfl).2; have z6 := (hR1.2 6 _ rfl).1; have y6 := (hR1.2 6 _ rfl).2)
          obtain ⟨W9, hW9⟩ : ∃ W9, W9 = put7 u0 D V1 := ⟨_, rfl⟩
          have hS9 : Struct D (wvEnc V1) W9 := by rw [hW9]; exact set7 hR1 rfl _
          have hT9 : Turned [] w W9 := by rw [hW9]; exact turned7 (hT.trans HT1 (by simp)) (.inr hDw) _
          have hD9 : Turned [D] u0 W9 := by rw [hW9]; exact turned7 (Turned.refl [D] _) (.inl (by simp)) _
          simp only [put7] at hW9
          rw [← hW9]
          have e0 := (hS9.2 0 _ rfl).1
          have e1 := (hS9.2 1 _ rfl).1
          have e2 := (hS9.2 2 _ rfl).1
          have e3 := (hS9.2 3 _ rfl).1
          have e4 := (hS9.2 4 _ rfl).1
          have e5 := (hS9.2 5 _ rfl).1
          have e6 := (hS9.2 6 _ rfl).1
          have hno : ¬ V1.At D := fun h => (hA1 D h).elim hVD (by have := hR.1; omega)
          have hTl := hV1.turned hD9 (fun k hk => by simp; rintro rfl; exact hno hk)
          exact bodyPost_ret (v := .tuple #[wvVal V1, .int .i64 0]) (by simp [results, Try.results8, go_sem, e0, e1, e2, e3, e4, e5, e6]) rfl ⟨V1, by rw [HA.out.2], by rw [HA.out.1]; exact hTl, fun k hk => (hA1 k hk).imp_right (fun h => Nat.le_trans hT.size h), hT9⟩
        · by_cases h5 : o.k = 5
          · have HA : Hid (Wd.act W o = Wd.tick W ∧ Wd.actE W o = 0) := by
              show _ ∧ _
              unfold Wd.act Wd.actE
              rw [h5]
              exact ⟨by simp, by simp⟩
            have hk := K.tick W V hG ht
            have i1 : (o.k == 1) = false := by rw [beq_eq_false_iff_ne]; exact h1
            have i2 : (o.k == 2) = false := by rw [beq_eq_false_iff_ne]; exact h2
            have i3 : (o.k == 3) = false := by rw [beq_eq_false_iff_ne]; exact h3
            have i4 : (o.k == 4) = false := by rw [beq_eq_false_iff_ne]; exact h4
            have i5 : (o.k == 5) = true := by rw [beq_iff_eq]; exact h5
            clear hG ho ht K h1 h2 h3 h4 h5
            go_enter Try.func8, Try.ntmps8
            go_wp2_with fail
            rw [← hW0, ← hD, ← hC, ← hB]
            clear hW0 hB hC hD
            go_wp2_with (go_at_call 9; (with_reducible refine (hk _ hVW).mono ?_); rintro r u0 ⟨V1, rfl, hV1, hA1, HT1⟩; have hR1 := hR.keep HT1 (by simp); have z0 := (hR1.2 0 _ rfl).1; have y0 := (hR1.2 0 _ rfl).2; have z1 := (hR1.2 1 _ rfl).1; have y1 := (hR1.2 1 _ rfl).2; have z2 := (hR1.2 2 _ rfl).1; have y2 := (hR1.2 2 _ rfl).2; have z3 := (hR1.2 3 _ rfl).1; have y3 := (hR1.2 3 _ rfl).2; have z4 := (hR1.2 4 _ rfl).1; have y4 := (hR1.2 4 _ rfl).2; have z5 := (hR1.2 5 _ rfl).1; have y5 := (hR1.2 5 _ rfl).2; have z6 := (hR1.2 6 _ rfl).1; have y6 := (hR1.2 6 _ rfl).2)
            obtain ⟨W9, hW9⟩ : ∃ W9, W9 = put7 u0 D V1 := ⟨_, rfl⟩
            have hS9 : Struct D (wvEnc V1) W9 := by rw [hW9]; exact set7 hR1 rfl _
            have hT9 : Turned [] w W9 := by rw [hW9]; exact turned7 (hT.trans HT1 (by simp)) (.inr hDw) _
            have hD9 : Turned [D] u0 W9 := by rw [hW9]; exact turned7 (Turned.refl [D] _) (.inl (by simp)) _
            simp only [put7] at hW9
            rw [← hW9]
            have e0 := (hS9.2 0 _ rfl).1
            have e1 := (hS9.2 1 _ rfl).1
            have e2 := (hS9.2 2 _ rfl).1
            have e3 := (hS9.2 3 _ rfl).1
            have e4 := (hS9.2 4 _ rfl).1
            have e5 := (hS9.2 5 _ rfl).1
            have e6 := (hS9.2 6 _ rfl).1
            have hno : ¬ V1.At D := fun h => (hA1 D h).elim hVD (by have := hR.1; omega)
            have hTl := hV1.turned hD9 (fun k hk => by simp; rintro rfl; exact hno hk)
            exact bodyPost_ret (v := .tuple #[wvVal V1, .int .i64 0]) (by simp [results, Try.results8, go_sem, e0, e1, e2, e3, e4, e5, e6]) rfl ⟨V1, by rw [HA.out.2], by rw [HA.out.1]; exact hTl, fun k hk => (hA1 k hk).imp_right (fun h => Nat.le_trans hT.size h), hT9⟩
          · have HA : Hid (Wd.act W o = W ∧ Wd.actE W o = 0) := by
              show _ ∧ _
              unfold Wd.act Wd.actE
              simp [h1, h2, h3, h4, h5]
            have i1 : (o.k == 1) = false := by rw [beq_eq_false_iff_ne]; exact h1
            have i2 : (o.k == 2) = false := by rw [beq_eq_false_iff_ne]; exact h2
            have i3 : (o.k == 3) = false := by rw [beq_eq_false_iff_ne]; exact h3
            have i4 : (o.k == 4) = false := by rw [beq_eq_false_iff_ne]; exact h4
            have i5 : (o.k == 5) = false := by rw [beq_eq_false_iff_ne]; exact h5
            clear hG ho ht K h1 h2 h3 h4 h5
            go_enter Try.func8, Try.ntmps8
            go_wp2_with fail
            have hT3 := fun a b c => (((Turned.refl [] w).alloc a).alloc b).alloc c
            exact bodyPost_ret (v := .tuple #[wvVal V, .int .i64 0]) (by simp [results, Try.results8, go_sem]) rfl ⟨V, by rw [HA.out.2], by rw [HA.out.1]; exact hV.calm (hT3 _ _ _), fun k hk => .inl hk, hT3 _ _ _⟩
end WdL
end Go.Proofs.Ytgabgkgokmeaeaa


/- Rows of elements of several cells, of the call's own: an element written; cells copied, put behind, cleared. Over any program. -/
namespace Go.Proofs.Ytgabgkgokmeaeaa
open Go.RowKit
set_option linter.unusedVariables false

theorem setCells_row {g : Nat} {t : TypeId} : ∀ (vs : List Value) (o : Nat) (cur : Array Value) (w : World), w.heap[g]? = some (.cells cur t (0, 0)) → o + vs.length ≤ cur.size →
    w.setCells g o vs = w.setRow g (cur.toList.take o ++ vs ++ cur.toList.drop (o + vs.length)).toArray
  | [], o, cur, w, hg, _ => by
    simp only [World.setCells, List.append_nil, List.length_nil, Nat.add_zero, List.take_append_drop, Array.toArray_toList]
    exact (setRow_self w g cur t (0, 0) hg).symm
  | v :: rest, o, cur, w, hg, hl => by
    have ih := setCells_row rest (o + 1) (cur.setIfInBounds o v) (w.setRow g (cur.setIfInBounds o v)) (setRow_heap w g cur _ t _ hg) (by simp at hl ⊢; omega)
    rw [World.setCells, setCell_eq_setRow w g o cur t (0, 0) v hg, ih, setRow_setRow]
    have e := list_seg_step cur.toList o v rest (by simp at hl ⊢; omega)
    congr 2
    simpa [Array.toList_setIfInBounds, Nat.add_assoc] using e
theorem seg {α : Type} (A B C X : List α) {a b : Nat} (ha : A.length = a) (hb : B.length = b) : (A ++ (B ++ C)).take a ++ X ++ (A ++ (B ++ C)).drop (a + b) = A ++ (X ++ C) := by
  have e1 : (A ++ (B ++ C)).take a = A := by rw [List.take_append_of_le_length (by omega), List.take_of_length_le (by omega)]
  have e2 : (A ++ (B ++ C)).drop (a + b) = C := by rw [← List.append_assoc]; exact List.drop_left' (by rw [List.length_append]; omega)
  rw [e1, e2, List.append_assoc]
theorem turned_setRow {S : List Nat} {w w' : World} (h : Turned S w w') {g : Nat} (hg : g ∈ S ∨ w.heap.size ≤ g) (cs : Array Value) : Turned S w (w'.setRow g cs) :=
  h.trans (S' := [g]) ⟨rfl, rfl, rfl, by simp [World.setRow], fun k hk hn => setRow_other w' g k cs (by simpa using hn)⟩ (by
    intro k hk hl
    simp at hk
    subst hk
    rcases hg with h | h
    · exact h
    · omega)

section
variable {P : Program} {α : Type} {t e : TypeId} {z : Value} {sz bytes : Nat} {enc : α → List Value} {v : Value} {l : List α} {w : World}
theorem flat_len {l : List α} (hf : ∀ a ∈ l, (enc a).length = sz) : (l.flatMap enc).length = l.length * sz := by
  induction l with
  | nil => simp
  | cons a r ih =>
    rw [List.flatMap_cons, List.length_append, hf a (List.mem_cons_self ..), ih fun x hx => hf x (List.mem_cons_of_mem _ hx), List.length_cons, Nat.add_mul]
    omega
theorem flat_parts (l : List α) (k : Nat) : l.flatMap enc = (l.take k).flatMap enc ++ (l.drop k).flatMap enc := by
  rw [← List.flatMap_append, List.take_append_drop]
theorem flat_at_k {k : Nat} {a : α} (h : l[k]? = some a) : l.flatMap enc = (l.take k).flatMap enc ++ (enc a ++ (l.drop (k + 1)).flatMap enc) := by
  obtain ⟨hk, rfl⟩ := List.getElem?_eq_some_iff.1 h
  rw [flat_parts l k, List.drop_eq_getElem_cons hk, List.flatMap_cons]
theorem flat_set {k : Nat} (hk : k < l.length) (x : α) : (l.set k x).flatMap enc = (l.take k).flatMap enc ++ (enc x ++ (l.drop (k + 1)).flatMap enc) := by
  rw [List.set_eq_take_append_cons_drop, if_pos hk, List.flatMap_append, List.flatMap_cons]
/-- a row of the call's own that isn't empty, as a block -/
theorem OwnL.block (h : OwnL e sz enc v l w) (hn : 0 < l.length) : ∃ g cap R, v = .slice (some ⟨g, 0, none⟩) l.length cap ∧ l.length ≤ cap ∧ cap ≤ maxLen ∧ w.heap[g]? = some (.cells (l.flatMap enc ++ R).toArray e (0, 0)) ∧ R.length = (cap - l.length) * sz := by
  rcases h.2 with ⟨rfl, h0⟩ | ⟨g, cap, cur, rfl, _, hgg, h1, h2, h3, h4⟩
  · omega
  · refine ⟨g, cap, cur.toList.drop (l.length * sz), rfl, h1, h2, ?_, ?_⟩
    · rw [← h4, List.take_append_drop, Array.toArray_toList]; exact hgg
    · rw [List.length_drop, Array.length_toList, h3, Nat.sub_mul]
theorem OwnL.ofBlock {g cap n : Nat} {R : List Value} (hg : w.heap[g]? = some (.cells (l.flatMap enc ++ R).toArray e (0, 0))) (hf : ∀ a ∈ l, (enc a).length = sz) (hn : l.length = n) (hc : n ≤ cap) (hm : cap ≤ maxLen) (hR : R.length = (cap - n) * sz) :
    OwnL e sz enc (.slice (some ⟨g, 0, none⟩) n cap) l w := by
  subst hn
  have hl := flat_len hf
  refine ⟨hl, .inr ⟨g, cap, _, rfl, Nat.zero_le _, hg, hc, hm, ?_, ?_⟩⟩
  · rw [List.size_toArray, List.length_append, hl, hR, ← Nat.add_mul, Nat.add_sub_cancel' hc]
  · show (l.flatMap enc ++ R).take _ = _
    rw [List.take_append_of_le_length (by omega), List.take_of_length_le (by omega)]
/-- an element is written, cell by cell -/
theorem OwnL.sets (h : OwnL e sz enc v l w) (hf : ∀ a ∈ l, (enc a).length = sz) {g n cap k : Nat} (hv : v = .slice (some ⟨g, 0, none⟩) n cap) (hk : k < l.length) (x : α) (hx : (enc x).length = sz) :
    OwnL e sz enc v (l.set k x) (w.setCells g (k * sz) (enc x)) := by
  obtain ⟨g', cap', R, hv', hc, hm, hg, hR⟩ := h.block (by omega)
  obtain ⟨rfl, rfl, rfl⟩ : g' = g ∧ n = l.length ∧ cap' = cap := by rw [hv] at hv'; simp at hv'; exact ⟨hv'.1.symm, hv'.2.1, hv'.2.2.symm⟩
  have hat := flat_at_k (enc := enc) (List.getElem?_eq_getElem hk)
  have hA : ((l.take k).flatMap enc).length = k * sz := by
    rw [flat_len fun a ha => hf a (List.mem_of_mem_take ha), List.length_take, Nat.min_eq_left (by omega)]
  have hB := hf l[k] (List.getElem_mem hk)
  have hfit : k * sz + (enc x).length ≤ (l.flatMap enc ++ R).toArray.size := by
    rw [hat, hx]; simp only [List.size_toArray, List.length_append]; omega
  rw [hv, setCells_row (enc x) (k * sz) _ w hg hfit]
  refine OwnL.ofBlock (l := l.set k x) (R := R) ?_ ?_ (by simp) hc hm hR
  · rw [setRow_heap w g' _ _ e _ hg]
    have hC : l.flatMap enc ++ R = (l.take k).flatMap enc ++ (enc l[k] ++ ((l.drop (k + 1)).flatMap enc ++ R)) := by rw [hat]; simp only [List.append_assoc]
    have hD : (l.set k x).flatMap enc ++ R = (l.take k).flatMap enc ++ (enc x ++ ((l.drop (k + 1)).flatMap enc ++ R)) := by rw [flat_set hk]; simp only [List.append_assoc]
    rw [List.toList_toArray, hx, hC, seg _ _ _ _ hA hB, ← hD]
  · intro a ha
    rcases List.mem_or_eq_of_mem_set ha with h | rfl
    · exact hf a h
    · exact hx

theorem cells_of_heap {g o : Nat} {A B C : List Value} (hg : w.heap[g]? = some (.cells (A ++ (B ++ C)).toArray e (0, 0))) (hA : A.length = o) : ∀ (j : Nat) (u : Value), B[j]? = some u → w.cell? ((⟨g, o, none⟩ : Addr).add j) = some u := by
  intro j u hj
  have hjl := (List.getElem?_eq_some_iff.1 hj).1
  rw [Addr.add_lit]
  unfold World.cell?
  rw [hg]
  simp only [List.getElem?_toArray]
  show (A ++ (B ++ C))[o + j]? = some u
  rw [List.getElem?_append_right (by omega), List.getElem?_append_left (by omega), show o + j - A.length = j by omega]
  exact hj
theorem three_parts {α : Type} (Z : List α) (a b : Nat) (h : a + b ≤ Z.length) : ∃ Z1 Z2 Z3, Z = Z1 ++ (Z2 ++ Z3) ∧ Z1.length = a ∧ Z2.length = b :=
  ⟨Z.take a, (Z.drop a).take b, (Z.drop a).drop b, by rw [List.take_append_drop, List.take_append_drop], by rw [List.length_take]; omega, by rw [List.length_take, List.length_drop]; omega⟩

/-! ### cells copied -/
theorem run_copyRow (E : ElemOk P t e z sz bytes) (ty : TypeId) (g o dLen dCap : Nat) (a : Addr) (sLen sCap m : Nat) (A B C cs : List Value) (hg : w.heap[g]? = some (.cells (A ++ (B ++ C)).toArray e (0, 0))) (ho : A.length = o)
    (hm : m = Nat.min sLen dLen) (hcs : cs.length = m * sz) (hB : B.length = m * sz) (hsrc : ∀ j v, cs[j]? = some v → w.cell? (a.add j) = some v) (h1 : ∀ v ∈ cs, v.oneCell' = true) :
    ∃ w', (Builtin.copy_ #[t, t] ty #[.slice (some ⟨g, o, none⟩) dLen dCap, .slice (some a) sLen sCap]).run P w = .ok (goInt m) w' ∧ w'.heap[g]? = some (.cells (A ++ (cs ++ C)).toArray e (0, 0)) ∧ Turned [g] w w' := by
  obtain ⟨i0, hi, hz0, hz1, hz2⟩ := info_parts E.info
  have hl := run_loadCells_list (P := P) w a cs hsrc
  have hfit : o + 0 + cs.length ≤ (A ++ (B ++ C)).toArray.size := by simp only [List.size_toArray, List.length_append]; omega
  have hst := run_storeCells_at P g o e cs 0 _ w hg hfit h1
  refine ⟨w.setRow g (A ++ (cs ++ C)).toArray, ?_, setRow_heap w g _ _ e _ hg, turned_setRow (Turned.refl _ _) (.inl (by simp)) _⟩
  have hseg := seg A B C cs (a := o) (b := cs.length) ho (by omega)
  simp only [Nat.add_zero] at hst
  rw [hseg] at hst
  subst hz1
  subst hm
  simp [Builtin.copy_, run_underlying E.und, Builtin.lenOf, Builtin.firstCells, sizeOf, typeInfo, hi, ← hcs, hl, hst]
theorem step_copyRow (E : ElemOk P t e z sz bytes) {ops : Array Oper} {o : Oper} {a : Act} {K : Act → World → Prop} {Q : Exit → Act → World → Prop} {E' : Prop} (hgd : o.guard = none) (d s : Operand)
    (ho : o.op = Op.call { callee := Callee.builtin Builtin.copy, args := #[d, s], argTypes := #[t, t] })
    (g off dLen dCap : Nat) (ad : Addr) (sLen sCap m : Nat) (hd : a.eval d = .slice (some ⟨g, off, none⟩) dLen dCap) (hs : a.eval s = .slice (some ad) sLen sCap)
    (A B C cs : List Value) (hg : w.heap[g]? = some (.cells (A ++ (B ++ C)).toArray e (0, 0))) (hA : A.length = off)
    (hm : m = Nat.min sLen dLen) (hcs : cs.length = m * sz) (hB : B.length = m * sz) (hsrc : ∀ j v, cs[j]? = some v → w.cell? (ad.add j) = some v) (h1 : ∀ v ∈ cs, v.oneCell' = true)
    (hk : ∀ w', Hid (w'.heap[g]? = some (.cells (A ++ (cs ++ C)).toArray e (0, 0))) → Turned [g] w w' → K (a.put o.dst (goInt m)) w') :
    if Region.wanted o (yielded ops a.tmps) = true then Oper.wp P o a w K Q else E' := by
  have hw : Region.wanted o (yielded ops a.tmps) = true := by simp [Region.wanted, hgd]
  rw [if_pos hw]
  obtain ⟨w', hr, h2, h3⟩ := run_copyRow (P := P) E o.type g off dLen dCap ad sLen sCap m A B C cs hg hA hm hcs hB hsrc h1
  unfold Oper.wp
  simp [execOp, ho, resolve, invoke, builtin, hd, hs, hr, Result.andThen]
  exact hk w' h2 h3
theorem wp_copyRow (E : ElemOk P t e z sz bytes) {ops : Array Oper} {rest : List Oper} {o : Oper} {a : Act} {Q : Exit → Act → World → Prop} (hgd : o.guard = none) (d s : Operand)
    (ho : o.op = .call { callee := .builtin .copy, args := #[d, s], argTypes := #[t, t] })
    (g off dLen dCap : Nat) (ad : Addr) (sLen sCap m : Nat) (hd : a.eval d = .slice (some ⟨g, off, none⟩) dLen dCap) (hs : a.eval s = .slice (some ad) sLen sCap)
    (A B C cs : List Value) (hg : w.heap[g]? = some (.cells (A ++ (B ++ C)).toArray e (0, 0))) (hA : A.length = off)
    (hm : m = Nat.min sLen dLen) (hcs : cs.length = m * sz) (hB : B.length = m * sz) (hsrc : ∀ j v, cs[j]? = some v → w.cell? (ad.add j) = some v) (h1 : ∀ v ∈ cs, v.oneCell' = true)
    (hk : ∀ w', Hid (w'.heap[g]? = some (.cells (A ++ (cs ++ C)).toArray e (0, 0))) → Turned [g] w w' → wpList P ops Q rest (a.put o.dst (goInt m)) w') :
    wpList P ops Q (o :: rest) a w := by
  obtain ⟨w', hr, h2, h3⟩ := run_copyRow (P := P) E o.type g off dLen dCap ad sLen sCap m A B C cs hg hA hm hcs hB hsrc h1
  refine wpList_plain hgd fun K hK => ?_
  unfold Oper.wp execOp
  simp only [ho, resolve, invoke, builtin, Sem.run_bind, Sem.run_pure, Result.andThen_ok, List.map_toArray, List.map_cons, List.map_nil, hd, hs, hr]
  exact hK _ _ (hk w' h2 h3)

/-! ### put behind, where there is room -/
theorem step_appendRow (E : ElemOk P t e z sz bytes) {ops : Array Oper} {o : Oper} {a : Act} {K : Act → World → Prop} {Q : Exit → Act → World → Prop} {E' : Prop} (hgd : o.guard = none) (s x : Operand)
    (ho : o.op = Op.call { callee := Callee.builtin Builtin.append, args := #[s, x], argTypes := #[t, t] })
    (g sLen sCap : Nat) (ad : Addr) (m c : Nat) (hs : a.eval s = .slice (some ⟨g, 0, none⟩) sLen sCap) (hx : a.eval x = .slice (some ad) m c)
    (A B C news : List Value) (tot : Nat) (htot : sLen + m = tot) (hg : w.heap[g]? = some (.cells (A ++ (B ++ C)).toArray e (0, 0))) (hA : A.length = sLen * sz) (hn : news.length = m * sz) (hB : B.length = m * sz) (hroom : sLen + m ≤ sCap)
    (hsrc : ∀ j u, news[j]? = some u → w.cell? (ad.add j) = some u) (h1 : ∀ u ∈ news, u.oneCell' = true)
    (hk : ∀ w', Hid (w'.heap[g]? = some (.cells (A ++ (news ++ C)).toArray e (0, 0))) → Turned [g] w w' → K (a.put o.dst (.slice (some ⟨g, 0, none⟩) tot sCap)) w') :
    if Region.wanted o (yielded ops a.tmps) = true then Oper.wp P o a w K Q else E' := by
  have hw : Region.wanted o (yielded ops a.tmps) = true := by simp [Region.wanted, hgd]
  rw [if_pos hw]
  subst htot
  obtain ⟨i0, hi, hz0, hz1, hz2⟩ := info_parts E.info
  subst hz1
  have hr := run_append_room (P := P) w t o.type e i0 E.und hi g sLen sCap _ hg ad m c news hn hsrc h1 hroom (by simp only [List.size_toArray, List.length_append]; omega)
  rw [List.toList_toArray, seg A B C news hA (by omega)] at hr
  unfold Oper.wp
  simp [execOp, ho, resolve, invoke, builtin, hs, hx, hr, Result.andThen]
  exact hk _ (setRow_heap w g _ _ e _ hg) (turned_setRow (Turned.refl _ _) (.inl (by simp)) _)

/-! ### cleared -/
theorem zero_one {zs : Array Value} (h0 : 0 < zs.size) (h1 : ∀ u ∈ zs.toList, u.oneCell' = true) (n : Nat) : ∀ u ∈ (Builtin.zeroCells zs n).toList, u.oneCell' = true := by
  intro u hu
  simp [Builtin.zeroCells] at hu
  obtain ⟨i, _, rfl⟩ := hu
  have hi : i % zs.size < zs.size := Nat.mod_lt _ h0
  rw [getElem!_pos zs _ hi]
  exact h1 _ (by simp)
theorem wp_clearRow (E : ElemOk P t e z sz bytes) (hz1 : ∀ u ∈ z.cells.toList, u.oneCell' = true) {ops : Array Oper} {rest : List Oper} {o : Oper} {a : Act} {Q : Exit → Act → World → Prop} (hgd : o.guard = none) (s : Operand)
    (ho : o.op = .call { callee := .builtin .clear, args := #[s], argTypes := #[t] })
    (g off n c : Nat) (hs : a.eval s = .slice (some ⟨g, off, none⟩) n c) (hn : 0 < n)
    (A B C : List Value) (hg : w.heap[g]? = some (.cells (A ++ (B ++ C)).toArray e (0, 0))) (hA : A.length = off) (hB : B.length = n * sz)
    (hk : ∀ w' Z, Hid (w'.heap[g]? = some (.cells (A ++ (Z ++ C)).toArray e (0, 0))) → Z.length = n * sz → Turned [g] w w' → wpList P ops Q rest (a.put o.dst (.tuple #[])) w') :
    wpList P ops Q (o :: rest) a w := by
  obtain ⟨i0, hi, hz0, hzs, hz2⟩ := info_parts E.info
  have hzl : (Builtin.zeroCells z.cells n).toList.length = n * sz := by rw [Array.length_toList, size_zeroCells, E.zs]
  have hst := run_storeCells_at P g off e (Builtin.zeroCells z.cells n).toList 0 _ w hg (by simp only [List.size_toArray, List.length_append]; omega) (zero_one (by rw [E.zs]; exact E.pos) hz1 n)
  simp only [Nat.add_zero] at hst
  rw [seg A B C _ hA (by omega)] at hst
  have hr : (Builtin.clear_ #[t] o.type #[.slice (some ⟨g, off, none⟩) n c]).run P w = .ok (.tuple #[]) (w.setRow g (A ++ ((Builtin.zeroCells z.cells n).toList ++ C)).toArray) := by
    obtain ⟨k, rfl⟩ : ∃ k, n = k + 1 := ⟨n - 1, by omega⟩
    simp [Builtin.clear_, run_underlying E.und, zeroValue, typeInfo, hi, hz0, hst]
  refine wpList_plain hgd fun K hK => ?_
  unfold Oper.wp execOp
  simp only [ho, resolve, invoke, builtin, Sem.run_bind, Sem.run_pure, Result.andThen_ok, List.map_toArray, List.map_cons, List.map_nil, hs, hr]
  exact hK _ _ (hk _ _ (setRow_heap w g _ _ e _ hg) hzl (turned_setRow (Turned.refl _ _) (.inl (by simp)) _))

/-! ### 'append(s, make(..)...)' past the room -/
theorem run_appendZeros (E : ElemOk P t e z sz bytes) (tn ty : TypeId) (kn : IntKind) (htn : P.underlying tn = some (.int kn)) (b : Addr) (sLen sCap : Nat) (olds : List Value) (hlo : olds.length = sLen * sz)
    (holds : ∀ j v, olds[j]? = some v → w.cell? (b.add j) = some v) (n : Nat) (h0 : 0 < n) (hg : sCap < sLen + n) (h63 : sLen + n ≤ 1048576) (hb : bytes ≤ 1048576) :
    ∃ cap Z, (Builtin.append_ #[t, tn] ty #[.slice (some b) sLen sCap, .int .i64 n]).run P w = .ok (.slice (some ⟨w.heap.size, 0, none⟩) (sLen + n) cap) (w.drew.alloc (.cells (olds ++ Z).toArray e)) ∧
      sLen + n ≤ cap ∧ cap ≤ maxLen ∧ Z.length = (cap - sLen) * sz := by
  obtain ⟨i, hi, hz0, hz1, hz2⟩ := info_parts E.info
  have hpos := E.pos
  have hm : (sLen + n) * bytes ≤ 1048576 * 1048576 := Nat.mul_le_mul h63 hb
  have hn : ¬ (sLen + n ≤ sCap) := by omega
  have h63' : ¬ (9223372036854775807 < ((sLen : Int) + (n : Int))) := by omega
  have hfit := growslice_fits (need := sLen + n) (old := sCap) (bytes := bytes) hg (by omega)
  have h48' : ¬ (281474976710656 < Builtin.nextslicecap (sLen + n) sCap * bytes) := by omega
  have hfo := run_firstCells_some (P := P) w.drew sz sLen b sLen sCap olds hlo (by simpa using holds)
  have hw : IntKind.i64.wrap (n : Int) = n := by rw [IntKind.wrap_i64]; omega
  have hneg : ¬ ((n : Int) < 0) := by omega
  have hns : ¬ (n * sz = 0) := Nat.mul_ne_zero (by omega) (by omega)
  have h48i : ¬ (281474976710656 < (n : Int) * (bytes : Int)) := by
    rw [← Int.natCast_mul]
    have : n * bytes ≤ (sLen + n) * bytes := Nat.mul_le_mul_right _ (by omega)
    omega
  have hge := grownCap_ge w (sLen + n) sCap e
  have hcm : grownCap w (sLen + n) sCap e ≤ maxLen := grownCap_le_maxLen w (sLen + n) sCap e (by unfold maxLen; omega)
  subst hz1
  subst hz2
  refine ⟨grownCap w (sLen + n) sCap e, (Builtin.zeroCells z.cells n ++ Builtin.zeroCells z.cells (grownCap w (sLen + n) sCap e - (sLen + n))).toList, ?_, hge, hcm, ?_⟩
  · simp [Builtin.append_, run_underlying E.und, run_underlying htn, sizeOf, typeInfo, zeroValue, hi, hz0, asInt, asIntOf, hw, hn, hneg, hns, h63', h48', h48i, Question.forced, hfo, newRow, grownCap]
    congr 2
    apply Array.ext'
    simp
  · rw [Array.length_toList, Array.size_append, size_zeroCells, size_zeroCells, E.zs, ← Nat.add_mul]
    congr 1
    omega
theorem wp_appendZeros (E : ElemOk P t e z sz bytes) {ops : Array Oper} {rest : List Oper} {o : Oper} {a : Act} {Q : Exit → Act → World → Prop} (hgd : o.guard = none) (s x : Operand) (tn : TypeId) (kn : IntKind)
    (ho : o.op = .call { callee := .builtin .append, args := #[s, x], argTypes := #[t, tn] }) (htn : P.underlying tn = some (.int kn)) (b : Addr) (sLen sCap : Nat) (hs : a.eval s = .slice (some b) sLen sCap) (n tot : Nat) (htot : sLen + n = tot) (hx : a.eval x = .int .i64 n)
    (olds : List Value) (hlo : olds.length = sLen * sz) (holds : ∀ j v, olds[j]? = some v → w.cell? (b.add j) = some v) (h0 : 0 < n) (hg : sCap < sLen + n) (h63 : sLen + n ≤ 1048576) (hb : bytes ≤ 1048576)
    (hk : ∀ cap Z w' G, G = w.heap.size → Hid (w'.heap[G]? = some (.cells (olds ++ Z).toArray e (0, 0))) → tot ≤ cap → cap ≤ maxLen → Z.length = (cap - sLen) * sz → Turned [] w w' → wpList P ops Q rest (a.put o.dst (.slice (some ⟨G, 0, none⟩) tot cap)) w') :
    wpList P ops Q (o :: rest) a w := by
  subst htot
  obtain ⟨cap, Z, hr, h1, h2, h3⟩ := run_appendZeros (P := P) E tn o.type kn htn b sLen sCap olds hlo holds n h0 hg h63 hb
  refine wpList_plain hgd fun K hK => ?_
  unfold Oper.wp execOp
  simp only [ho, resolve, invoke, builtin, Sem.run_bind, Sem.run_pure, Result.andThen_ok, List.map_toArray, List.map_cons, List.map_nil, hs, hx, hr]
  refine hK _ _ (hk cap Z _ _ rfl ?_ h1 h2 h3 ((Turned.refl [] w).drew.alloc _))
  exact heap_alloc_new w.drew _
end
end Go.Proofs.Ytgabgkgokmeaeaa
