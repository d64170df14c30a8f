/- A datagram that is new comes at one end. -/
import Derived.Test.YtloobijdpchppaaChEndT
namespace Go.Proofs.Ytloobijdpchppaa
open Go.RowKit
set_option linter.unusedVariables false
set_option linter.unusedSimpArgs false

section
variable {P C Q D : Nat} {F G : List Nat} {vs va vc us ua uc : Value} {a b : Ch.E} {w : World}
theorem on_some {l : List Bool} {k : Nat} (h : k < l.length) : l[k]? = some (Ch.on l k) := by
  unfold Ch.on; rw [List.getElem?_eq_getElem h]; rfl
/-- 'came' is written in place -/
theorem EndAt.giver (h : EndAt Q D G us ua uc b w) {g k cap : Nat} (hv : uc = .slice (some ⟨g, 0, none⟩) b.came.length cap) (hk : k < b.came.length) :
    EndAt Q D G us ua uc (Ch.giver b k) (w.setCell ⟨g, k, none⟩ (.bool true)) ∧ g ∈ blk uc := by
  obtain ⟨a1, a2, a3, a4, b1, b2, b3, c1, c2, d1⟩ := h.far
  have hg : g ∈ blk uc := by rw [hv]; simp [blk, Value.ownBlock]
  have t1 : Turned [g] w (w.setCell ⟨g, k, none⟩ (.bool true)) := (Turned.refl [g] w).setCell (p := ⟨g, k, none⟩) (.inl (by simp)) _
  exact ⟨⟨h.st.keep t1 (fun hm => by simp at hm; subst hm; exact a4 hg), h.ch.keep t1 (far_one (b3.symm g hg)), h.se.keep t1 (far_one (c2.symm g hg)), h.ak.keep t1 (far_one (d1.symm g hg)), OwnL.set (f := Value.bool) h.cm hv hk true, h.ap⟩, hg⟩
theorem EndAt.withAck (h : EndAt P C F vs va vc a w) {u : World} (ht : Turned (blk va) w u) {l : List Bool} (ho : OwnL 4 1 bEnc va l u) : EndAt P C F vs va vc ⟨a.s, a.sent, l, a.came⟩ u := by
  obtain ⟨a1, a2, a3, a4, b1, b2, b3, c1, c2, d1⟩ := h.far
  exact ⟨h.st.keep ht a3, h.ch.keep ht b2, h.se.keep ht c1, ho, h.cm.keep ht d1.symm, h.ap⟩
theorem ackAll_next {L : List Int} {f : List Bool} {j m : Nat} (h : L[j]? = some (m : Int)) : Ch.ackAll (L.take (j + 1)) f = (Ch.ackAll (L.take j) f).set m true := by
  unfold Ch.ackAll
  rw [List.take_add_one, h, List.foldl_append]
  rfl
end

namespace ChL
set_option maxRecDepth 40000 in
set_option maxHeartbeats 8000000 in
theorem take_fresh (P C Q D : Nat) (F : List Nat) (vs va vc : Value) (a : Ch.E) (G : List Nat) (us ua uc : Value) (b : Ch.E) (k : Nat) (h : Ch.H) (w : World) (ha : EndAt P C F vs va vc a w) (hb : EndAt Q D G us ua uc b w) (hap : Far (ends P F vs va vc) (ends Q G us ua uc))
    (hk : b.sent[k]? = some h) (hh : Ch.HWf h) (hw : Ch.Wf a.s) (hf : Ch.fresh a.s h = true) (hkc : k < b.came.length) (hnc : Ch.on b.came k = false) (la : a.ack.length = a.sent.length) (lc : a.came.length = a.sent.length)
    (hgood : ∀ (p r : List Int) (q : Int), Ch.acked a.s h = p ++ q :: r → q.toNat < a.sent.length ∧ Ch.on (Ch.ackAll p a.ack) q.toNat = false ∧ Ch.on a.came q.toNat = true) :
    Calls Try.prog 28 #[.pointer (some ⟨P, 0, none⟩), .pointer (some ⟨Q, 0, none⟩), .int .i64 (k : Int)] w fun r w' => r = .returned (.bool true) ∧ ∃ F', EndAt P C F' vs va vc (Ch.taker a h) w' ∧ EndAt Q D G us ua uc (Ch.giver b k) w' ∧ Turned (ends P F vs va vc ++ ends Q G us ua uc) w w' ∧ ∀ x ∈ F', x ∈ F ∨ w.heap.size ≤ x := by
  have hkl := (List.getElem?_eq_some_iff.1 hk).1
  have hn : ∀ q ∈ Ch.acked a.s h, 0 ≤ q ∧ q < 65536 := fun q hq => hw.o0 q (List.mem_filter.1 hq).1
  have hfa := ha.far
  have hbl := hb.lt
  have hal := ha.lt
  obtain ⟨oas, cas, rfl, _, _⟩ := OwnL.form ha.se
  obtain ⟨oaa, caa, rfl, _, _⟩ := OwnL.form ha.ak
  obtain ⟨oac, cac, rfl, _, _⟩ := OwnL.form ha.cm
  obtain ⟨g, cap, rfl, _, hg, hc⟩ := OwnL.cell hb.se hEnc_len hk
  have e0 := (hc 0 _ rfl).1
  rw [Nat.add_zero] at e0
  have e1 := (hc 1 _ rfl).1
  have e2 := (hc 2 _ rfl).1
  have e3 := (hc 3 _ rfl).1
  obtain ⟨c1, _⟩ := hb.st.2 1 _ rfl
  obtain ⟨a0, _⟩ := ha.st.2 0 _ rfl
  have hkc2 : b.came[k]? = some false := by rw [← hnc]; exact on_some hkc
  obtain ⟨gc, capc, rfl, _, hgc, _⟩ := OwnL.cell hb.cm bEnc_len hkc2
  have HKC : Hid (b.came[k]? = some false) := hkc2
  have kT : ∀ (u : World), Turned [] w u → Calls Try.prog 11 #[.pointer (some ⟨C, 0, none⟩), .agg #[.int .u16 h.n, .bool h.y, .int .u16 h.a, .int .u32 h.m]] u fun e w' => ∃ ol nl cl F', e = .returned (.tuple #[.slice ol nl cl, .int .i64 0]) ∧ NumsAt (.slice ol nl cl) (Ch.acked a.s h) w' ∧ nl = (Ch.acked a.s h).length ∧ (∀ k ∈ blk (.slice ol nl cl), w.heap.size ≤ k) ∧ CH C F' (Ch.took a.s h) w' ∧ Moved F F' w w' :=
    fun u hu => (ChW.take_new C F a.s h u (ha.ch.keep hu (by simp)) hw hh hf).mono fun e w' ⟨v0, F', he, h1, h2, h3, h4⟩ => by
      obtain ⟨ol, cl, rfl, _, _⟩ := OwnL.form h1
      exact ⟨ol, _, cl, F', he, h1, rfl, fun k hk => Nat.le_trans hu.size (h2 k hk), h3, (Turned.trans (hu.mono (S' := F) (by simp)) h4.1 (fun k hk _ => hk)), fun k hk => (h4.2 k hk).imp id (fun hg => Nat.le_trans hu.size hg)⟩
  have hwd : Turned [] w w.drew := (Turned.refl [] w).drew
  have h0 : ¬ (k : Int) < 0 := by omega
  have h1 : ¬ (b.sent.length : Int) ≤ (k : Int) := by omega
  have h2 : (k : Int) < (b.sent.length : Int) := by omega
  have hkc3 : (k : Int) < (b.came.length : Int) := by omega
  have HG : Hid (∀ (p r : List Int) (q : Int), Ch.acked a.s h = p ++ q :: r → q.toNat < a.sent.length ∧ Ch.on (Ch.ackAll p a.ack) q.toNat = false ∧ Ch.on a.came q.toNat = true) := hgood
  have HLA : Hid (a.ack.length = a.sent.length) := la
  have HLC : Hid (a.came.length = a.sent.length) := lc
  have HN : Hid (∀ q ∈ Ch.acked a.s h, 0 ≤ q ∧ q < 65536) := hn
  clear hc hk hkl hgood la lc hn hkc2
  obtain ⟨L, hL⟩ : ∃ L, L = Ch.acked a.s h := ⟨_, rfl⟩
  rw [← hL] at kT HG HN
  have HLq : Hid (L = Ch.acked a.s h) := hL
  clear hL
  go_enter Try.func28, Try.ntmps28
  go_wp2_with fail
  refine Code.wp_mono (Q := fun x a' W' => Normal x (∃ ol nl cl F2, a' = ⟨#[.pointer (some ⟨P, 0, none⟩), .pointer (some ⟨Q, 0, none⟩), .int .i64 (k : Int), undef, undef, undef, .bool false, .slice ol nl cl, .int .i64 0, undef, undef, .int .i64 (k : Int), .bool false, .bool false, .int .i64 (k : Int),
    .pointer (some ⟨Q, 0, none⟩), .pointer (some ⟨Q, 0, none⟩), .pointer (some ⟨Q, 1, none⟩), .slice (some ⟨g, 0, none⟩) b.sent.length cap, .int .i64 (b.sent.length : Int), .bool false, .bool false, .tuple #[.slice ol nl cl, .int .i64 0], .pointer (some ⟨P, 0, none⟩), .pointer (some ⟨P, 0, none⟩), .pointer (some ⟨P, 0, none⟩), .pointer (some ⟨C, 0, none⟩),
    .pointer (some ⟨Q, 0, none⟩), .pointer (some ⟨Q, 0, none⟩), .pointer (some ⟨Q, 1, none⟩), .slice (some ⟨g, 0, none⟩) b.sent.length cap, .int .i64 (k : Int), .pointer (some ⟨g, k * 4, none⟩), .agg #[.int .u16 h.n, .bool h.y, .int .u16 h.a, .int .u32 h.m], .tuple #[.slice ol nl cl, .int .i64 0], .slice ol nl cl, .int .i64 0,
    undef, undef, undef, undef, undef, undef, undef, undef, undef, undef, undef, undef, undef, undef, undef, undef, undef, undef, undef, undef, undef, undef, undef, undef, undef, undef, undef, undef, undef, undef, undef, undef, undef, undef, undef, undef, undef, undef, undef, undef, undef, undef, undef, undef, undef, undef, undef, undef, undef, undef, undef, undef, undef, undef, undef, undef, undef, undef, undef, undef, undef, undef, undef, undef, undef], []⟩ ∧
      NumsAt (.slice ol nl cl) L W' ∧ nl = L.length ∧ (∀ k ∈ blk (.slice ol nl cl), w.heap.size ≤ k) ∧ CH C F2 (Ch.took a.s h) W' ∧ Moved F F2 w W')) ?tail ?walk
  case walk =>
    go_region_with (go_at_call 11; (with_reducible refine (kT _ hwd).mono ?_); rintro e u2 ⟨ol, nl, cl, F2, rfl, hn2, hl2, hb2, hc2, hm2⟩; have HL2 : Hid (nl = L.length) := hl2; clear hl2)
    all_goals exact ⟨_, _, _, _, rfl, hn2, HL2.out, hb2, hc2, hm2⟩
  case tail =>
    intro x a' W3 hq
    obtain ⟨rfl, ol, nl, cl, F2, rfl, hn3, hl3, hb3, hc3, hm3⟩ := Normal.out hq
    have HL3 : Hid (nl = L.length) := hl3
    have hnl : (nl : Int) ≤ 64 := by
      have h1 : (Ch.acked a.s h).length ≤ 64 := Nat.le_trans (List.length_filter_le _ _) hw.o1
      rw [← HLq.out] at h1
      omega
    clear hq kT hwd e0 e1 e2 e3 c1 a0 hl3
    obtain ⟨hA3, hMA⟩ := ha.turn hc3 hm3
    have hB3 := hb.keep hm3.1 (fun k hk hm => hap k (ends_mem.2 (.inr (.inl hm))) hk)
    obtain ⟨q3, _⟩ := hB3.st.2 3 _ rfl
    obtain ⟨gc', capc', hvc, _, _, hcc⟩ := OwnL.cell hB3.cm bEnc_len HKC.out
    simp at hvc
    obtain ⟨rfl, rfl⟩ := hvc
    obtain ⟨i0, j0⟩ := hcc 0 _ rfl
    rw [Nat.mul_one, Nat.add_zero] at i0 j0
    obtain ⟨hB5, hgm⟩ := hB3.giver (k := k) rfl (by omega)
    have hgcw : gc < w.heap.size := hbl gc (ends_mem.2 (.inr (.inr (.inr (.inr hgm)))))
    have hQc : ¬ Q = gc := fun e => hB3.far.2.2.2.1 (by rw [e]; exact hgm)
    have hgB : gc ∈ ends Q G (.slice (some ⟨g, 0, none⟩) b.sent.length cap) ua (.slice (some ⟨gc, 0, none⟩) b.came.length capc) := ends_mem.2 (.inr (.inr (.inr (.inr hgm))))
    have t5 : Turned [gc] W3 (W3.setCell ⟨gc, k, none⟩ (.bool true)) := (Turned.refl [gc] W3).setCell (p := ⟨gc, k, none⟩) (.inl (by simp)) _
    have hgA : ∀ x ∈ ends P F2 (.slice oas a.sent.length cas) (.slice oaa a.ack.length caa) (.slice oac a.came.length cac), x ∉ [gc] := by
      intro x hx hm
      simp at hm
      subst hm
      rcases hMA.2 _ hx with h | h
      · exact hap _ h hgB
      · omega
    have hA5 := hA3.keep t5 hgA
    have hn5 : NumsAt (.slice ol nl cl) L (W3.setCell ⟨gc, k, none⟩ (.bool true)) := OwnL.keep hn3 t5 (fun x hx hm => by simp at hm; subst hm; have := hb3 _ hx; omega)
    obtain ⟨W5, hW5⟩ : ∃ W, W = W3.setCell ⟨gc, k, none⟩ (.bool true) := ⟨_, rfl⟩
    rw [← hW5] at hB5 t5 hA5 hn5
    clear hcc hgA hB3 hn3 hA3
    go_wp2_with fail
    rw [← hW5]
    clear hW5 q3 i0 j0
    have HVA : Hid (∀ x ∈ blk (.slice oaa a.ack.length caa), x < w.heap.size) := fun x hx => hal x (ends_mem.2 (.inr (.inr (.inr (.inl hx)))))
    have HT5 : Hid (Turned (ends P F (.slice oas a.sent.length cas) (.slice oaa a.ack.length caa) (.slice oac a.came.length cac) ++ ends Q G (.slice (some ⟨g, 0, none⟩) b.sent.length cap) ua (.slice (some ⟨gc, 0, none⟩) b.came.length capc)) w W5) :=
      (hMA.1.mono fun k hk _ => List.mem_append_left _ hk).trans t5 (fun k hk _ => List.mem_append_right _ (by simp at hk; subst hk; exact hgB))
    have HF2 : Hid (∀ x ∈ F2, x ∈ F ∨ w.heap.size ≤ x) := hm3.2
    have hfar5 := hA5.far
    have HnB : Hid (∀ x ∈ ends Q G (.slice (some ⟨g, 0, none⟩) b.sent.length cap) ua (.slice (some ⟨gc, 0, none⟩) b.came.length capc), x ∉ blk (.slice oaa a.ack.length caa)) := fun x hx hm => hap x (ends_mem.2 (.inr (.inr (.inr (.inl hm))))) hx
    have HnL : Hid (∀ x ∈ blk (.slice ol nl cl), x ∉ blk (.slice oaa a.ack.length caa)) := fun x hx hm => by have := hb3 x hx; have := HVA.out x hm; omega
    clear t5 hMA hm3 hc3 hgcw hgB hgm hbl hal hap hb ha hfa hQc
    go_loopw [9] (fun i wr => ∃ j : Nat, j ≤ nl ∧ i = .int .i64 (j : Int) ∧ OwnL 4 1 bEnc (.slice oaa a.ack.length caa) (Ch.ackAll (L.take j) a.ack) wr ∧ Turned (blk (.slice oaa a.ack.length caa)) W5 wr) (fun i _ => nl - (intOf i).toNat)
    case atStart => exact ⟨0, by omega, rfl, by simpa [Ch.ackAll] using hA5.ak, Turned.refl _ _⟩
    case round =>
      obtain ⟨j, hj, rfl, hrow, ht⟩ := hrel
      by_cases hlt : (j : Int) < (nl : Int)
      · have hl3 := HL3.out
        have hjl : j < L.length := by omega
        obtain ⟨q, hq⟩ : ∃ q, L[j]? = some q := ⟨_, List.getElem?_eq_getElem hjl⟩
        have hsp : L = L.take j ++ q :: L.drop (j + 1) := by
          have h5 : L.drop j = q :: L.drop (j + 1) := by
            rw [List.drop_eq_getElem_cons hjl]
            have := (List.getElem?_eq_some_iff.1 hq).2
            rw [this]
          rw [← h5, List.take_append_drop]
        have hq0 := HN.out q (List.mem_of_getElem? hq)
        obtain ⟨m, rfl⟩ : ∃ m : Nat, q = (m : Int) := ⟨q.toNat, by omega⟩
        have hm65 : (m : Int) < 65536 := hq0.2
        obtain ⟨g1, g2, g3⟩ := HG.out _ _ _ hsp
        rw [Int.toNat_natCast] at g1 g2 g3
        have HA : Hid (_ = _) := ackAll_next (f := a.ack) hq
        have hml : (Ch.ackAll (L.take j) a.ack).length = a.ack.length := Ch.ackAll_len _ _
        have hmk : m < (Ch.ackAll (L.take j) a.ack).length := by rw [hml, HLA.out]; exact g1
        have hx1 := on_some hmk
        rw [g2] at hx1
        have hx2 := on_some (l := a.came) (k := m) (by rw [HLC.out]; exact g1)
        rw [g3] at hx2
        have hsr := hA5.st.keep ht hfar5.2.2.1
        have hcr := hA5.cm.keep ht hfar5.2.2.2.2.2.2.2.2.2.symm
        have hnr := OwnL.keep hn5 ht HnL.out
        obtain ⟨ga, capa, hv1, _, hgal, hc1⟩ := hrow.cell bEnc_len hx1
        obtain ⟨gm, capm, hv2, _, _, hc2⟩ := hcr.cell bEnc_len hx2
        obtain ⟨gl, capl, hv3, _, _, hc3⟩ := OwnL.cell hnr nEnc_len hq
        rw [hml] at hv1
        rw [← hl3] at hv3
        simp at hv1 hv2 hv3
        obtain ⟨rfl, rfl⟩ := hv1
        obtain ⟨rfl, rfl⟩ := hv2
        obtain ⟨rfl, rfl⟩ := hv3
        obtain ⟨x0, y0⟩ := hc1 0 _ rfl
        obtain ⟨x1, _⟩ := hc2 0 _ rfl
        obtain ⟨x2, _⟩ := hc3 0 _ rfl
        rw [Nat.mul_one, Nat.add_zero] at x0 y0 x1 x2
        obtain ⟨s1, _⟩ := hsr.2 1 _ rfl
        obtain ⟨s2, _⟩ := hsr.2 2 _ rfl
        obtain ⟨s3, _⟩ := hsr.2 3 _ rfl
        have hm1 : ¬ (a.sent.length : Int) ≤ (m : Int) := by omega
        have hm2 : (m : Int) < (a.ack.length : Int) := by have := HLA.out; omega
        have hm3 : (m : Int) < (a.came.length : Int) := by have := HLC.out; omega
        have HR : Hid _ := OwnL.set (f := Value.bool) (oc := caa) hrow (by rw [hml]) hmk true
        have HT : Hid (Turned (blk (.slice (some ⟨ga, 0, none⟩) a.ack.length caa)) W5 wr) := ht
        clear hc1 hc2 hc3 hsp hq hx1 hx2 g1 g2 g3 hmk hml hrow hcr hnr hsr hl3 hq0 hjl ht
        go_wp2_with fail
        go_roundw
        case rel => exact ⟨j + 1, by omega, by go_num, by rw [HA.out]; exact HR.out, HT.out.setCell (p := ⟨ga, m, none⟩) (.inl (by simp [blk, Value.ownBlock])) _⟩
        case measure => simp [intOf]; omega
      · have hje : j = nl := by omega
        have hLt : L.take j = L := by rw [hje, HL3.out, List.take_length]
        rw [hLt] at hrow
        have HA : Hid _ := hA5.withAck ht hrow
        have HB : Hid _ := hB5.keep ht HnB.out
        have HT : Hid _ := HT5.out.trans ht (fun k hk _ => List.mem_append_left _ (ends_mem.2 (.inr (.inr (.inr (.inl hk))))))
        clear hrow hLt hje ht
        go_wp2_with fail
        go_ret
        refine BtL.bool_ret rfl ⟨F2, ?_, HB.out, HT.out, HF2.out⟩
        have := HA.out
        rw [HLq.out] at this
        exact this
end ChL
end Go.Proofs.Ytloobijdpchppaa
