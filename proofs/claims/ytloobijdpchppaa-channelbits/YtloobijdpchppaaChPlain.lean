/- A channel, plain: what is sent and taken, as the document has it; the reference's list of flags; two channels that send to each other. -/
import Derived.Test.YtloobijdpchppaaSerRows
namespace Go.Proofs.Ytloobijdpchppaa
set_option linter.unusedVariables false

namespace Sr
variable {l m n q : Int}
/-- what is had behind a number that was new was had before, or is that number -/
theorem has_back {y : Bool} (hl0 : 0 ≤ l) (hl : l < 65536) (hn0 : 0 ≤ n) (hn : n < 65536) (hm0 : 0 ≤ m) (hm : m < 4294967296) (hq0 : 0 ≤ q) (hq : q < 65536) (ho : ok y l m n = true)
    (h : has true (last y l n) (mask y l m n) q = true) : q = n ∨ has y l m q = true := by
  have hL0 : 0 ≤ last y l n := last_lo hl0 hn0
  have hL : last y l n < 65536 := last_hi hl hn
  have hM := mask_in (any := y) (l := l) (n := n) hm0 hm
  have h2 : steps (last y l n) q ≤ 0 := by
    by_cases hp : 0 < steps (last y l n) q
    · rw [has_over hp] at h; cases h
    · omega
  have h1 : -32 ≤ steps (last y l n) q := by
    by_cases hp : steps (last y l n) q < -32
    · rw [has_lt (by omega), tb_far hM.2 (by omega)] at h; cases h
    · omega
  cases y
  · rw [last_none, mask_none] at h
    rw [last_none] at h2
    left
    by_cases hz : steps n q = 0
    · exact steps_zero hn0 hn hq0 hq hz
    · rw [has_lt (by omega)] at h; unfold tb at h; simp at h
  · rw [take_has hl0 hl hn0 hn hm0 hm hq0 hq ho h1 h2] at h
    rcases (Bool.or_eq_true _ _).mp h with e | e
    · exact Or.inl (of_decide_eq_true e)
    · exact Or.inr e
theorem has_none {l m q : Int} : has false l m q = false := by unfold has; simp
end Sr

namespace Ch
open Sr

/-- a header: its number, and the sender's window -/
structure H where
  n : Int
  y : Bool
  a : Int
  m : Int
/-- a channel: the number that is sent next; what came; the numbers that aren't acked yet -/
structure S where
  x : Int
  y : Bool
  l : Int
  m : Int
  o : List Int
def zero : S := ⟨0, false, 0, 0, []⟩
def head (s : S) : H := ⟨s.x, s.y, s.l, s.m⟩
def most (o : List Int) : List Int := o.drop (o.length - 64)
def send (s : S) : S := ⟨(s.x + 1) % 65536, s.y, s.l, s.m, most (s.o ++ [s.x])⟩
def knows (h : H) (q : Int) : Bool := has h.y h.a h.m q
def fresh (s : S) (h : H) : Bool := ok s.y s.l s.m h.n
def acked (s : S) (h : H) : List Int := s.o.filter (knows h)
def left (s : S) (h : H) : List Int := s.o.filter fun q => !knows h q
def took (s : S) (h : H) : S := ⟨s.x, true, last s.y s.l h.n, mask s.y s.l s.m h.n, left s h⟩
def take (s : S) (h : H) : S := if fresh s h = true then took s h else s
def takeL (s : S) (h : H) : List Int := if fresh s h = true then acked s h else []

structure HWf (h : H) : Prop where
  n0 : 0 ≤ h.n
  n1 : h.n < 65536
  a0 : 0 ≤ h.a
  a1 : h.a < 65536
  m0 : 0 ≤ h.m
  m1 : h.m < 4294967296
structure Wf (s : S) : Prop where
  x0 : 0 ≤ s.x
  x1 : s.x < 65536
  l0 : 0 ≤ s.l
  l1 : s.l < 65536
  m0 : 0 ≤ s.m
  m1 : s.m < 4294967296
  o0 : ∀ q ∈ s.o, 0 ≤ q ∧ q < 65536
  o1 : s.o.length ≤ 64
theorem zero_wf : Wf zero := ⟨by decide, by decide, by decide, by decide, by decide, by decide, fun _ h => (by cases h), by decide⟩
theorem head_wf {s : S} (h : Wf s) : HWf (head s) := ⟨h.x0, h.x1, h.l0, h.l1, h.m0, h.m1⟩
theorem most_len (o : List Int) : (most o).length ≤ 64 := by unfold most; rw [List.length_drop]; omega
theorem most_mem {o : List Int} {q : Int} (h : q ∈ most o) : q ∈ o := List.mem_of_mem_drop h
theorem send_wf {s : S} (h : Wf s) : Wf (send s) := by
  refine ⟨?_, ?_, h.l0, h.l1, h.m0, h.m1, fun q hq => ?_, most_len _⟩
  · show 0 ≤ (s.x + 1) % 65536; omega
  · show (s.x + 1) % 65536 < 65536; omega
  · rcases List.mem_append.mp (most_mem hq) with e | e
    · exact h.o0 q e
    · rw [List.mem_singleton.mp e]; exact ⟨h.x0, h.x1⟩
theorem took_wf {s : S} {h : H} (w : Wf s) (k : HWf h) : Wf (took s h) :=
  ⟨w.x0, w.x1, last_lo w.l0 k.n0, last_hi w.l1 k.n1, (mask_in w.m0 w.m1).1, (mask_in w.m0 w.m1).2, fun q hq => w.o0 q (List.mem_filter.mp hq).1,
    Nat.le_trans (List.length_filter_le _ _) w.o1⟩
theorem take_wf {s : S} {h : H} (w : Wf s) (k : HWf h) : Wf (take s h) := by
  unfold take; split
  · exact took_wf w k
  · exact w

/-! the reference's flags: of each number that was sent, whether it isn't acked yet -/
def nums : Nat → List Bool → List Int
  | _, [] => []
  | i, b :: f => if b = true then ((i % 65536 : Nat) : Int) :: nums (i + 1) f else nums (i + 1) f
def count : List Bool → Nat
  | [] => 0
  | b :: f => if b = true then count f + 1 else count f
/-- all but the last 64 are given up -/
def keep : List Bool → List Bool
  | [] => []
  | b :: f => (b && decide (count (b :: f) ≤ 64)) :: keep f
def acks (h : H) : Nat → List Bool → List Bool
  | _, [] => []
  | i, b :: f => (b && !knows h ((i % 65536 : Nat) : Int)) :: acks h (i + 1) f
theorem nums_len : ∀ (i : Nat) (f : List Bool), (nums i f).length = count f
  | _, [] => rfl
  | i, b :: f => by
    unfold nums count; cases b
    · rw [if_neg (by decide), if_neg (by decide)]; exact nums_len _ f
    · rw [if_pos rfl, if_pos rfl, List.length_cons, nums_len (i + 1) f]
theorem keep_len : ∀ f : List Bool, (keep f).length = f.length
  | [] => rfl
  | b :: f => by unfold keep; rw [List.length_cons, List.length_cons, keep_len f]
theorem acks_len (h : H) : ∀ (i : Nat) (f : List Bool), (acks h i f).length = f.length
  | _, [] => rfl
  | i, b :: f => by unfold acks; rw [List.length_cons, List.length_cons, acks_len h (i + 1) f]
theorem nums_keep : ∀ (i : Nat) (f : List Bool), nums i (keep f) = (nums i f).drop (count f - 64)
  | _, [] => rfl
  | i, b :: f => by
    have e := nums_keep (i + 1) f
    unfold keep; cases b
    · have c : count (false :: f) = count f := rfl
      rw [c, Bool.false_and]
      show nums (i + 1) (keep f) = (nums (i + 1) f).drop _
      exact e
    · have c : count (true :: f) = count f + 1 := rfl
      rw [c, Bool.true_and]
      by_cases hc : count f + 1 ≤ 64
      · rw [decide_eq_true hc]
        show _ :: nums (i + 1) (keep f) = (_ :: nums (i + 1) f).drop _
        rw [e, show count f - 64 = 0 by omega, show count f + 1 - 64 = 0 by omega, List.drop_zero, List.drop_zero]
      · rw [decide_eq_false hc]
        show nums (i + 1) (keep f) = (_ :: nums (i + 1) f).drop _
        rw [e, show count f + 1 - 64 = (count f - 64) + 1 by omega, List.drop_succ_cons]
theorem nums_add (b : Bool) : ∀ (i : Nat) (f : List Bool), nums i (f ++ [b]) = nums i f ++ (if b = true then [(((i + f.length) % 65536 : Nat) : Int)] else [])
  | i, [] => by cases b <;> rfl
  | i, c :: f => by
    have e := nums_add b (i + 1) f
    rw [show i + 1 + f.length = i + (c :: f).length by rw [List.length_cons]; omega] at e
    cases c
    · show nums (i + 1) (f ++ [b]) = nums (i + 1) f ++ _
      exact e
    · show _ :: nums (i + 1) (f ++ [b]) = _ :: nums (i + 1) f ++ _
      rw [e]; rfl
theorem nums_send (f : List Bool) (x : Int) (hx : x = ((f.length % 65536 : Nat) : Int)) : nums 0 (keep (f ++ [true])) = most (nums 0 f ++ [x]) := by
  rw [nums_keep, nums_add, ← nums_len 0 (f ++ [true]), nums_add, if_pos rfl, Nat.zero_add, ← hx]; rfl
theorem nums_acks (h : H) : ∀ (i : Nat) (f : List Bool), nums i (acks h i f) = (nums i f).filter fun q => !knows h q
  | _, [] => rfl
  | i, b :: f => by
    have e := nums_acks h (i + 1) f
    cases b
    · show nums (i + 1) (acks h (i + 1) f) = (nums (i + 1) f).filter _
      exact e
    · show nums i ((true && !knows h ((i % 65536 : Nat) : Int)) :: acks h (i + 1) f) = (((i % 65536 : Nat) : Int) :: nums (i + 1) f).filter _
      rw [Bool.true_and, List.filter_cons]
      cases hk : knows h ((i % 65536 : Nat) : Int)
      · show _ :: nums (i + 1) (acks h (i + 1) f) = _
        rw [e]; rfl
      · show nums (i + 1) (acks h (i + 1) f) = _
        rw [e]; rfl

/-! two channels -/
def on (l : List Bool) (k : Nat) : Bool := (l[k]?).getD false
theorem on_lt {l : List Bool} {k : Nat} (h : on l k = true) : k < l.length := by
  unfold on at h
  rcases Nat.lt_or_ge k l.length with e | e
  · exact e
  · rw [List.getElem?_eq_none e] at h; cases h
theorem on_add (l : List Bool) : on (l ++ [false]) = on l := by
  funext k; unfold on
  rcases Nat.lt_trichotomy k l.length with e | e | e
  · rw [List.getElem?_append_left e]
  · rw [List.getElem?_append_right (by omega), show k - l.length = 0 by omega, List.getElem?_eq_none (show l.length ≤ k by omega)]; rfl
  · rw [List.getElem?_append_right (by omega), List.getElem?_eq_none (show l.length ≤ k by omega), List.getElem?_eq_none (by rw [List.length_singleton]; omega)]
theorem on_set {l : List Bool} {k : Nat} (h : k < l.length) : on (l.set k true) = fun i => if i = k then true else on l i := by
  funext i; unfold on
  by_cases e : i = k
  · subst e; rw [if_pos rfl, List.getElem?_set_self h]; rfl
  · rw [if_neg e, List.getElem?_set_ne (fun c => e c.symm)]
theorem on_set_ne {l : List Bool} {i k : Nat} (h : i ≠ k) : on (l.set k true) i = on l i := by
  unfold on; rw [List.getElem?_set_ne (fun c => h c.symm)]

/-- one of two channels: what it sent; what of it is acked; what of it came -/
structure E where
  s : S
  sent : List H
  ack : List Bool
  came : List Bool
def none : E := ⟨zero, [], [], []⟩
def sendE (a : E) : E := ⟨send a.s, a.sent ++ [head a.s], a.ack ++ [false], a.came ++ [false]⟩
def ackAll (l : List Int) (f : List Bool) : List Bool := l.foldl (fun f q => f.set q.toNat true) f
/-- who takes -/
def taker (a : E) (h : H) : E := ⟨took a.s h, a.sent, ackAll (acked a.s h) a.ack, a.came⟩
/-- whose datagram number k it was -/
def giver (b : E) (k : Nat) : E := ⟨b.s, b.sent, b.ack, b.came.set k true⟩
theorem ackAll_len : ∀ (l : List Int) (f : List Bool), (ackAll l f).length = f.length
  | [], _ => rfl
  | q :: l, f => by show (ackAll l (f.set q.toNat true)).length = _; rw [ackAll_len l, List.length_set]
theorem ackAll_ne : ∀ (l : List Int) (f : List Bool) (k : Nat), (∀ q ∈ l, q.toNat ≠ k) → on (ackAll l f) k = on f k
  | [], _, _, _ => rfl
  | q :: l, f, k, h => by
    show on (ackAll l (f.set q.toNat true)) k = _
    rw [ackAll_ne l _ k (fun c hc => h c (List.mem_cons_of_mem _ hc)), on_set_ne (fun e => h q List.mem_cons_self e.symm)]
theorem ackAll_stay : ∀ (l : List Int) (f : List Bool) (k : Nat), on f k = true → on (ackAll l f) k = true
  | [], _, _, h => h
  | q :: l, f, k, h => by
    refine ackAll_stay l _ k ?_
    by_cases e : k = q.toNat
    · rw [on_set (by rw [← e]; exact on_lt h)]; exact if_pos e
    · rw [on_set_ne e]; exact h
theorem ackAll_on : ∀ (l : List Int) (f : List Bool) (q : Int), q ∈ l → q.toNat < f.length → on (ackAll l f) q.toNat = true
  | [], _, _, h, _ => by cases h
  | c :: l, f, q, h, hl => by
    rcases List.mem_cons.mp h with e | e
    · subst e
      refine ackAll_stay l _ _ ?_
      rw [on_set hl]; exact if_pos rfl
    · exact ackAll_on l _ q e (by rw [List.length_set]; exact hl)

/-- what holds of a's datagrams, and of what b knows of them -/
structure Inv (a b : E) : Prop where
  wf : Wf a.s
  hw : ∀ h ∈ a.sent, HWf h
  x : a.s.x = (a.sent.length : Int)
  la : a.ack.length = a.sent.length
  lc : a.came.length = a.sent.length
  nth : ∀ (k : Nat) (h : H), a.sent[k]? = some h → h.n = (k : Int)
  nd : a.s.o.Nodup
  op : ∀ q ∈ a.s.o, q.toNat < a.sent.length ∧ on a.ack q.toNat = false
  once : Once 0 b.s.y b.s.l b.s.m (on a.came)
  win : ∀ q, 0 ≤ q → q < 65536 → has b.s.y b.s.l b.s.m q = true → on a.came q.toNat = true
  hd : ∀ h ∈ b.sent, ∀ q, 0 ≤ q → q < 65536 → knows h q = true → on a.came q.toNat = true
theorem none_inv : Inv none none where
  wf := zero_wf
  hw := fun _ h => by cases h
  x := rfl
  la := rfl
  lc := rfl
  nth := fun _ _ h => by cases h
  nd := List.nodup_nil
  op := fun _ h => by cases h
  once := by
    have e : on none.came = fun _ => false := by funext k; rfl
    rw [e]; exact Once.none 0
  win := fun q _ _ h => by rw [show none.s.y = false from rfl, has_none] at h; cases h
  hd := fun _ h => by cases h
variable {a b : E}
theorem Inv.send_it (i : Inv a b) (hn : a.sent.length < 1000) : Inv (sendE a) b where
  wf := send_wf i.wf
  hw := fun h hh => by
    rcases List.mem_append.mp hh with e | e
    · exact i.hw h e
    · rw [List.mem_singleton.mp e]; exact head_wf i.wf
  x := by
    show (a.s.x + 1) % 65536 = ((a.sent ++ [head a.s]).length : Int)
    rw [i.x, List.length_append, List.length_singleton]; omega
  la := by show (a.ack ++ [false]).length = (a.sent ++ [head a.s]).length; rw [List.length_append, List.length_append, i.la]; rfl
  lc := by show (a.came ++ [false]).length = (a.sent ++ [head a.s]).length; rw [List.length_append, List.length_append, i.lc]; rfl
  nth := fun k h hk => by
    replace hk : (a.sent ++ [head a.s])[k]? = some h := hk
    rcases Nat.lt_trichotomy k a.sent.length with e | e | e
    · rw [List.getElem?_append_left e] at hk; exact i.nth k h hk
    · rw [List.getElem?_append_right (by omega), show k - a.sent.length = 0 by omega] at hk
      cases hk
      show a.s.x = _
      rw [i.x, e]
    · rw [List.getElem?_eq_none (by rw [List.length_append, List.length_singleton]; omega)] at hk; cases hk
  nd := by
    refine List.Sublist.nodup (List.drop_sublist _ _) ?_
    rw [List.nodup_append]
    refine ⟨i.nd, List.nodup_cons.mpr ⟨by simp, List.nodup_nil⟩, fun c hc d hd e => ?_⟩
    have h1 := (i.op c hc).1
    have h2 := List.mem_singleton.mp hd
    have h3 := i.x
    have h4 := (i.wf.o0 c hc).1
    omega
  op := fun q hq => by
    show q.toNat < (a.sent ++ [head a.s]).length ∧ on (a.ack ++ [false]) q.toNat = false
    rw [on_add, List.length_append, List.length_singleton]
    rcases List.mem_append.mp (most_mem hq) with e | e
    · have := i.op q e; exact ⟨by omega, this.2⟩
    · have h2 := List.mem_singleton.mp e
      have h3 := i.x
      refine ⟨by omega, ?_⟩
      unfold on; rw [List.getElem?_eq_none (by rw [i.la]; omega)]; rfl
  once := by show Once 0 b.s.y b.s.l b.s.m (on (a.came ++ [false])); rw [on_add]; exact i.once
  win := fun q h0 h1 h => by show on (a.came ++ [false]) q.toNat = true; rw [on_add]; exact i.win q h0 h1 h
  hd := fun h hh q h0 h1 hk => by show on (a.came ++ [false]) q.toNat = true; rw [on_add]; exact i.hd h hh q h0 h1 hk
theorem Inv.send_other (i : Inv a b) : Inv a (sendE b) where
  wf := i.wf
  hw := i.hw
  x := i.x
  la := i.la
  lc := i.lc
  nth := i.nth
  nd := i.nd
  op := i.op
  once := i.once
  win := i.win
  hd := fun h hh q h0 h1 hk => by
    rcases List.mem_append.mp hh with e | e
    · exact i.hd h e q h0 h1 hk
    · rw [List.mem_singleton.mp e] at hk; exact i.win q h0 h1 hk
theorem num_zero {k : Nat} (h : k < 1000) : num 0 k = (k : Int) := by unfold num; omega
/-- b's datagram number k comes, and is new: it didn't come before -/
theorem Inv.isnew (j : Inv b a) {k : Nat} {h : H} (hk : b.sent[k]? = some h) (hn : b.sent.length ≤ 1000) (hf : fresh a.s h = true) : on b.came k = false := by
  have hlt : k < b.sent.length := (List.getElem?_eq_some_iff.mp hk).1
  have e := j.nth k h hk
  unfold fresh at hf
  rw [e, ← num_zero (show k < 1000 by omega)] at hf
  exact (j.once.new (by omega) hf).1
theorem Inv.took_it (j : Inv b a) (w : Wf a.s) {k : Nat} {h : H} (hk : b.sent[k]? = some h) (hn : b.sent.length ≤ 1000) (hf : fresh a.s h = true) : Inv (giver b k) (taker a h) where
  wf := j.wf
  hw := j.hw
  x := j.x
  la := j.la
  lc := by show (b.came.set k true).length = _; rw [List.length_set]; exact j.lc
  nth := j.nth
  nd := j.nd
  op := j.op
  once := by
    have hlt : k < b.sent.length := (List.getElem?_eq_some_iff.mp hk).1
    have e := j.nth k h hk
    have hf2 := hf
    unfold fresh at hf2
    rw [e, ← num_zero (show k < 1000 by omega)] at hf2
    have o := (j.once.new (by omega) hf2).2.1
    show Once 0 true (last a.s.y a.s.l h.n) (mask a.s.y a.s.l a.s.m h.n) (on (b.came.set k true))
    rw [on_set (by rw [j.lc]; exact hlt), e, ← num_zero (show k < 1000 by omega)]
    exact o
  win := fun q h0 h1 hh => by
    have hlt : k < b.sent.length := (List.getElem?_eq_some_iff.mp hk).1
    have e := j.nth k h hk
    have hW := j.hw h (List.mem_of_getElem? hk)
    show on (b.came.set k true) q.toNat = true
    rw [on_set (by rw [j.lc]; exact hlt)]
    rcases has_back w.l0 w.l1 hW.n0 hW.n1 w.m0 w.m1 h0 h1 hf hh with c | c
    · exact if_pos (by omega)
    · show (if q.toNat = k then true else on b.came q.toNat) = true
      rw [j.win q h0 h1 c]; split <;> rfl
  hd := fun h' hh q h0 h1 hq => by
    have hlt : k < b.sent.length := (List.getElem?_eq_some_iff.mp hk).1
    show on (b.came.set k true) q.toNat = true
    rw [on_set (by rw [j.lc]; exact hlt)]
    show (if q.toNat = k then true else on b.came q.toNat) = true
    rw [j.hd h' hh q h0 h1 hq]; split <;> rfl
theorem toNat_ne {p q : Int} (hp : 0 ≤ p) (hq : 0 ≤ q) (h : p ≠ q) : p.toNat ≠ q.toNat := by omega
theorem Inv.took_other (i : Inv a b) {h : H} (k : Nat) (hw : HWf h) : Inv (taker a h) (giver b k) where
  wf := took_wf i.wf hw
  hw := i.hw
  x := i.x
  la := by show (ackAll _ a.ack).length = _; rw [ackAll_len]; exact i.la
  lc := i.lc
  nth := i.nth
  nd := List.Sublist.nodup List.filter_sublist i.nd
  op := fun q hq => by
    obtain ⟨hq1, hq2⟩ := List.mem_filter.mp hq
    refine ⟨(i.op q hq1).1, ?_⟩
    show on (ackAll (acked a.s h) a.ack) q.toNat = false
    rw [ackAll_ne]
    · exact (i.op q hq1).2
    · intro c hc
      obtain ⟨hc1, hc2⟩ := List.mem_filter.mp hc
      refine toNat_ne (i.wf.o0 c hc1).1 (i.wf.o0 q hq1).1 fun e => ?_
      subst e; rw [hc2] at hq2; cases hq2
  once := i.once
  win := i.win
  hd := i.hd
/-- what is acked was sent, wasn't acked, and came -/
theorem Inv.good (i : Inv a b) {h : H} (hh : h ∈ b.sent) {p r : List Int} {q : Int} (e : acked a.s h = p ++ q :: r) :
    q.toNat < a.sent.length ∧ on (ackAll p a.ack) q.toNat = false ∧ on a.came q.toNat = true := by
  have hn : (acked a.s h).Nodup := List.Sublist.nodup List.filter_sublist i.nd
  have hm : ∀ c ∈ p ++ q :: r, c ∈ a.s.o ∧ knows h c = true := fun c hc => by rw [← e] at hc; exact List.mem_filter.mp hc
  have hq := hm q (List.mem_append_right _ List.mem_cons_self)
  have hb := i.wf.o0 q hq.1
  refine ⟨(i.op q hq.1).1, ?_, i.hd h hh q hb.1 hb.2 hq.2⟩
  rw [ackAll_ne]
  · exact (i.op q hq.1).2
  · intro c hc
    rw [e] at hn
    have hc1 := hm c (List.mem_append_left _ hc)
    exact toNat_ne (i.wf.o0 c hc1.1).1 hb.1 ((List.nodup_append.mp hn).2.2 c hc q List.mem_cons_self)
end Ch
end Go.Proofs.Ytloobijdpchppaa
