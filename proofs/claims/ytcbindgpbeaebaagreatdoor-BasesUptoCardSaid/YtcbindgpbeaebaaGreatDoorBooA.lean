import Derived.Test.YtcbindgpbeaebaaGreatDoorRefJ
import Derived.Test.YtcbindgpbeaebaaGreatDoorRowK
import Derived.BigQuiet
import Derived.Deep.QuietTactic
namespace Go.Proofs.YtcbindgpbeaebaaGreatDoor
open Go.RowKit Go.Deep

/-- What an append keeps of the row that it goes on from. -/
def KeepsPre (w w' : World) (e : TypeId) (size n : Nat) (v : Value) : Prop :=
  ∀ g cur, v.ownBlock = some g → w.heap[g]? = some (.cells cur e (0, 0)) → ∃ cur', w'.heap[g]? = some (.cells cur' e (0, 0)) ∧ cur'.size = cur.size ∧ cur'.toList.take (n * size) = cur.toList.take (n * size)
theorem run_append_from {P : Program} (w : World) (base : Nat) (t ty e : TypeId) (i : TypeInfo) (z : Value) (size bytes : Nat) (ht : P.underlying t = some (.slice e)) (hi : P.info? e = some i) (hz : i.zero = some z)
    (hsize : i.size = size) (hby : i.bytes = bytes) (hzs : z.cells.size = size) (hsz : 0 < size)
    (v : Value) (n : Nat) (xs : List Value) (hown : w.ownsRow base e size v n xs) (src : Value) (m : Nat) (ys : List Value) (hl : ys.length = m * size)
    (hsrc : (src = .slice none 0 0 ∧ m = 0) ∨ ∃ a c, src = .slice (some a) m c ∧ ∀ j u, ys[j]? = some u → w.cell? (a.add j) = some u) (h1 : ∀ u ∈ ys, u.oneCell' = true)
    (h63 : n + m ≤ maxLen) (hbytes : (n + m) * bytes ≤ 140737488355328) (hbase : base ≤ w.heap.size) :
    ∃ v' w', (Builtin.append_ #[t, t] ty #[v, src]).run P w = .ok v' w' ∧ w'.ownsRow base e size v' (n + m) (xs ++ ys) ∧ w.grownBy w' v.ownBlock ∧ KeepsPre w w' e size n v := by
  rcases hsrc with ⟨rfl, rfl⟩ | ⟨a, c, rfl, hnews⟩
  · have hy : ys = [] := List.eq_nil_of_length_eq_zero (by omega)
    subst hy
    refine ⟨v, w, run_append_owned_none (P := P) (w := w) base t ty e i size ht hi v n xs hown, by simpa using hown, grownBy_refl _ _, fun g cur _ hc => ⟨cur, hc, rfl, rfl⟩⟩
  · obtain ⟨v', w', hr, h2, h3, _⟩ := run_append_own (P := P) w base t ty e i z size bytes ht hi hz hsize hby hzs hsz v n xs hown a m c ys hl hnews h1 h63 hbytes hbase
    refine ⟨v', w', hr, h2, h3, fun g cur hg hc => ?_⟩
    subst hsize
    subst hby
    rcases hown.2 with ⟨rfl, _⟩ | ⟨g', cap, cur', rfl, hbg, hg', hnc, hcm, hcs, htake⟩
    · cases hg
    · have : g' = g := by simpa [Value.ownBlock] using hg
      subst this
      rw [hc] at hg'
      simp only [Option.some.injEq, Obj.cells.injEq, and_true] at hg'
      subst hg'
      by_cases hroom : n + m ≤ cap
      · have hfit : n * i.size + ys.length ≤ cur.size := by rw [hl, hcs, ← Nat.add_mul]; exact Nat.mul_le_mul_right _ hroom
        have hr' := run_append_room (P := P) w t ty e i ht hi g' n cap cur hc a m c ys hl hnews h1 hroom hfit
        rw [hr] at hr'
        simp only [Result.ok.injEq] at hr'
        obtain ⟨_, rfl⟩ := hr'
        refine ⟨_, setRow_heap w g' cur _ e _ hc, ?_, ?_⟩
        · simp only [List.size_toArray, List.length_append, List.length_take, List.length_drop, Array.length_toList]
          omega
        · simp only [List.append_assoc]
          have hlt : (cur.toList.take (n * i.size)).length = n * i.size := by
            rw [List.length_take, Array.length_toList]; omega
          rw [List.take_append_of_le_length (by omega), List.take_of_length_le (by omega)]
      · have hsmall : n + m ≤ 9223372036854775807 := by simp only [maxLen] at h63; omega
        have holds : ∀ j u, xs[j]? = some u → w.cell? ((⟨g', 0, none⟩ : Addr).add j) = some u := hown.cells (g := g') rfl
        have hr' := run_append_grow (P := P) w t ty e i z ht hi hz ⟨g', 0, none⟩ n cap xs hown.1 holds a m c ys hl hnews (by omega) (by omega) (growslice_fits (by omega) hbytes)
        rw [hr] at hr'
        simp only [Result.ok.injEq] at hr'
        obtain ⟨_, rfl⟩ := hr'
        exact ⟨cur, (Below.heap_alloc w.drew _ g' (lt_of_heap hc)).trans hc, rfl, rfl⟩
theorem stp_append_from {P : Program} {ops : Array Oper} {o : Oper} {a : Act} {w : World} {K : Act → World → Prop} {Q : Exit → Act → World → Prop} {E : Prop} (hg : o.guard = none) (d s : Operand) (t : TypeId)
    (ho : o.op = .call { callee := .builtin .append, args := #[d, s], argTypes := #[t, t] })
    (base : Nat) (e : TypeId) (i : TypeInfo) (z : Value) (size bytes : Nat) (ht : P.underlying t = some (.slice e)) (hi : P.info? e = some i) (hz : i.zero = some z)
    (hsize : i.size = size) (hby : i.bytes = bytes) (hzs : z.cells.size = size) (hsz : 0 < size)
    (v : Value) (n : Nat) (xs : List Value) (hd : a.eval d = v) (hown : w.ownsRow base e size v n xs) (src : Value) (m : Nat) (ys : List Value) (hs : a.eval s = src) (hl : ys.length = m * size)
    (hsrc : (src = .slice none 0 0 ∧ m = 0) ∨ ∃ a c, src = .slice (some a) m c ∧ ∀ j u, ys[j]? = some u → w.cell? (a.add j) = some u) (h1 : ∀ u ∈ ys, u.oneCell' = true)
    (h63 : n + m ≤ maxLen) (hbytes : (n + m) * bytes ≤ 140737488355328) (hbase : base ≤ w.heap.size)
    (h : ∀ v' w', w'.ownsRow base e size v' (n + m) (xs ++ ys) → w.grownBy w' v.ownBlock → KeepsPre w w' e size n v → K (a.put o.dst v') w') :
    if Region.wanted o (yielded ops a.tmps) = true then Oper.wp P o a w K Q else E := by
  obtain ⟨v', w', hr, h2, h3, h4⟩ := run_append_from (P := P) w base t o.type e i z size bytes ht hi hz hsize hby hzs hsz v n xs hown src m ys hl hsrc h1 h63 hbytes hbase
  exact stp_append hg d s t t ho v src hd hs hr (h v' w' h2 h3 h4)
theorem wpList_append_from {P : Program} {ops : Array Oper} {rest : List Oper} {o : Oper} {a : Act} {w : World} {Q : Exit → Act → World → Prop} (hg : o.guard = none) (d s : Operand) (t : TypeId)
    (ho : o.op = .call { callee := .builtin .append, args := #[d, s], argTypes := #[t, t] })
    (base : Nat) (e : TypeId) (i : TypeInfo) (z : Value) (size bytes : Nat) (ht : P.underlying t = some (.slice e)) (hi : P.info? e = some i) (hz : i.zero = some z)
    (hsize : i.size = size) (hby : i.bytes = bytes) (hzs : z.cells.size = size) (hsz : 0 < size)
    (v : Value) (n : Nat) (xs : List Value) (hd : a.eval d = v) (hown : w.ownsRow base e size v n xs) (src : Value) (m : Nat) (ys : List Value) (hs : a.eval s = src) (hl : ys.length = m * size)
    (hsrc : (src = .slice none 0 0 ∧ m = 0) ∨ ∃ a c, src = .slice (some a) m c ∧ ∀ j u, ys[j]? = some u → w.cell? (a.add j) = some u) (h1 : ∀ u ∈ ys, u.oneCell' = true)
    (h63 : n + m ≤ maxLen) (hbytes : (n + m) * bytes ≤ 140737488355328) (hbase : base ≤ w.heap.size)
    (h : ∀ v' w', w'.ownsRow base e size v' (n + m) (xs ++ ys) → w.grownBy w' v.ownBlock → KeepsPre w w' e size n v → wpList P ops Q rest (a.put o.dst v') w') :
    wpList P ops Q (o :: rest) a w := by
  obtain ⟨v', w', hr, h2, h3, h4⟩ := run_append_from (P := P) w base t o.type e i z size bytes ht hi hz hsize hby hzs hsz v n xs hown src m ys hl hsrc h1 h63 hbytes hbase
  exact wpList_plain hg fun _ hK => Lib.wp_append_run w d s t t ho v src hd hs _ _ hr (hK _ _ (h v' w' h2 h3 h4))
theorem below_new (w : World) (o : Obj) : Below w.heap.size w (w.alloc o) := (Below.refl _ _).alloc (Nat.le_refl _) o
theorem drewN_heap (w : World) (n : Nat) : (w.drewN n).heap = w.heap := rfl
end Go.Proofs.YtcbindgpbeaebaaGreatDoor

namespace Go.Proofs.YtcbindgpbeaebaaGreatDoor
open Go.RowKit Go.Deep
attribute [local go_sem ↓] Go.wp_at_zero Go.wp_at_succ

/-- The blocks of a call of the document's 'one', which began at w0. -/
structure OneM (w0 w : World) (v : Value) (l : List Nd) (x : Dd) : Prop where
  b0 : w.heap[w0.heap.size]? = some (.cells #[v] 30 (0, 0))
  b1 : w.heap[w0.heap.size + 1]? = some (.cells #[.bool x.take, .string x.node.path, .int .i64 x.node.kind, .int .i64 x.node.mode, .int .i64 x.node.tag, .string x.node.data] 79 (0, 0))
  b2 : w.heap[w0.heap.size + 1 + 1]? = some (.cells #[.slice none 0 0] 30 (0, 0))
  nat : NAt w v l
  bel : Below w0.heap.size w0 w
  sz : w0.heap.size + 3 ≤ w.heap.size
theorem OneM.below {w0 w w' : World} {v : Value} {l : List Nd} {x : Dd} (h : OneM w0 w v l x) (hb : Below w.heap.size w w') : OneM w0 w' v l x := by
  have hs := h.sz
  exact ⟨(hb.block _ (by omega)).trans h.b0, (hb.block _ (by omega)).trans h.b1, (hb.block _ (by omega)).trans h.b2, h.nat.below hb, h.bel.trans (hb.mono (by omega)), by have := hb.size; omega⟩
theorem six_cells {w : World} {b : Nat} {v0 v1 v2 v3 v4 v5 : Value} {t : TypeId} (h : w.heap[b]? = some (.cells #[v0, v1, v2, v3, v4, v5] t (0, 0))) :
    w.cell? ⟨b, 0, none⟩ = some v0 ∧ w.cell? ⟨b, 1, none⟩ = some v1 ∧ w.cell? ⟨b, 2, none⟩ = some v2 ∧ w.cell? ⟨b, 3, none⟩ = some v3 ∧ w.cell? ⟨b, 4, none⟩ = some v4 ∧ w.cell? ⟨b, 5, none⟩ = some v5 := by
  refine ⟨?_, ?_, ?_, ?_, ?_, ?_⟩ <;> (rw [cell_of_row w b _ _ _ _ h]; rfl)
theorem OneM.start (w : World) (v : Value) (l : List Nd) (x : Dd) (h : NAt w v l) : OneM w (((w.alloc (.cells #[v] 30)).alloc (.cells #[.bool x.take, .string x.node.path, .int .i64 x.node.kind, .int .i64 x.node.mode, .int .i64 x.node.tag, .string x.node.data] 79)).alloc (.cells #[.slice none 0 0] 30)) v l x := by
  obtain ⟨k0, k1, k2, ks⟩ := heap_three w (.cells #[v] 30) (.cells #[.bool x.take, .string x.node.path, .int .i64 x.node.kind, .int .i64 x.node.mode, .int .i64 x.node.tag, .string x.node.data] 79) (.cells #[.slice none 0 0] 30)
  exact ⟨k0, k1, k2, ((h.alloc _).alloc _).alloc _, (((Below.refl _ _).alloc (Nat.le_refl _) _).alloc (by simp) _).alloc (by simp; omega) _, by rw [ks]; omega⟩

theorem OneM.kept {w0 w w' : World} {v : Value} {l : List Nd} {x : Dd} (h : OneM w0 w v l x) (hn : NAt w0 v l) (hk : ∀ k, k < w0.heap.size + 3 → w'.heap[k]? = w.heap[k]?) (hb : Below w0.heap.size w0 w') (hs : w.heap.size ≤ w'.heap.size) : OneM w0 w' v l x :=
  ⟨(hk _ (by omega)).trans h.b0, (hk _ (by omega)).trans h.b1, (hk _ (by omega)).trans h.b2, hn.below hb, hb, by have := h.sz; omega⟩
theorem OneM.drew {w0 w : World} {v : Value} {l : List Nd} {x : Dd} (h : OneM w0 w v l x) : OneM w0 w.drew v l x := ⟨h.b0, h.b1, h.b2, h.nat.drew, h.bel.drew, h.sz⟩
/-- The end: what is given back lies in the result's block. -/
theorem OneM.fin {w0 w : World} {v : Value} {l : List Nd} {x : Dd} (h : OneM w0 w v l x) {u : Value} {L : List Nd} (hu : NAt w u L) : NAt (w.setCell ⟨w0.heap.size + 1 + 1, 0, none⟩ u) u L ∧ Below w0.heap.size w0 (w.setCell ⟨w0.heap.size + 1 + 1, 0, none⟩ u) :=
  ⟨ownsRow_set hu _ (ownsRow_ne hu h.b2 (by decide)) u, h.bel.setCell (by simp; omega) u⟩

/-- 'out.l' is appended to, and stored. -/
theorem OneM.step {w0 w w1 w2 : World} {v ov u : Value} {l : List Nd} {x : Dd} {bo n m : Nat} {xs ys : List Value} (h : OneM w0 w v l x) (hn : NAt w0 v l) (how : w.ownsRow w0.heap.size 76 5 ov n xs) (hbo : w.heap[bo]? = some (.cells #[ov] 30 (0, 0))) (hb3 : w0.heap.size + 3 ≤ bo)
    (h1 : Below w.heap.size w w1) (hg : w1.grownBy w2 ov.ownBlock) (hu : w2.ownsRow w0.heap.size 76 5 u m ys) :
    OneM w0 (w2.setCell ⟨bo, 0, none⟩ u) v l x ∧ (w2.setCell ⟨bo, 0, none⟩ u).heap[bo]? = some (.cells #[u] 30 (0, 0)) ∧ (w2.setCell ⟨bo, 0, none⟩ u).ownsRow w0.heap.size 76 5 u m ys ∧ w2.heap[bo]? = some (.cells #[ov] 30 (0, 0)) := by
  have hs := h.sz
  have hz1 := h1.size
  have hz2 := hg.size
  have kb : ∀ k, k < w.heap.size → ov.ownBlock ≠ some k → w2.heap[k]? = w.heap[k]? := fun k hk hne => (hg.block k (by omega) (fun e => hne e.symm)).trans (h1.block k hk)
  have lbo := lt_of_heap hbo
  have hbo2 : w2.heap[bo]? = some (.cells #[ov] 30 (0, 0)) := (kb bo lbo (ownsRow_ne how hbo (by decide))).trans hbo
  have hb2 : Below w0.heap.size w0 w2 := (h.bel.trans (h1.mono (by omega))).grown hg (by omega) (fun k hk => (how.lt k hk).1)
  refine ⟨h.kept hn (fun k hk => ?_) (hb2.setCell (by simp; omega) u) (by simp [World.setCell]; omega), heap_setCell_same w2 bo 0 _ _ u hbo2, ownsRow_set hu _ (ownsRow_ne hu hbo2 (by decide)) u, hbo2⟩
  rw [Below.heap_setCell w2 ⟨bo, 0, none⟩ u k (by simp; omega)]
  refine kb k (by omega) ?_
  rcases Nat.lt_or_ge k w0.heap.size with hlt | hge
  · intro e
    have := (how.lt k e).1
    omega
  · have : k = w0.heap.size ∨ k = w0.heap.size + 1 ∨ k = w0.heap.size + 1 + 1 := by omega
    rcases this with rfl | rfl | rfl
    · exact ownsRow_ne how h.b0 (by decide)
    · exact ownsRow_ne how h.b1 (by decide)
    · exact ownsRow_ne how h.b2 (by decide)
theorem rowD_snoc (l : List Nd) (p : Nd) : rowD (l ++ [p]) = rowD l ++ ndC p := by simp [rowD]

/-- What 'one' gives back. -/
def OnePost (w : World) (r : List Nd × Int) (e : Ending) (w' : World) : Prop :=
  ∃ v', e = .returned (.tuple #[.agg #[v'], .int .i64 r.2]) ∧ NAt w' v' r.1 ∧ Below w.heap.size w w'

set_option maxRecDepth 100000 in
set_option maxHeartbeats 3200000 in
theorem one_take (w : World) (v : Value) (l : List Nd) (n : Nd) (h : NAt w v l) (hl : l.length ≤ 1000) :
    Calls Tryz.prog 121 #[.agg #[v], ddV ⟨true, n⟩] w (OnePost w (rOne l ⟨true, n⟩)) := by
  obtain ⟨ao, cap, hv⟩ := h.form
  subst hv
  have hm := OneM.start w (.slice ao l.length cap) l ⟨true, n⟩ h
  unfold ddV
  dsimp only at hm ⊢
  have hF := bfind_any _ (.slice ao l.length cap) l n.path hm.nat (by omega)
  have HF := hide hF
  have HM := hide hm
  have HNAT := hide h
  clear hF hm h
  rcases findI_cases l n.path with ⟨hi, hn⟩ | ⟨i, m, hi, hn, hat, hlt⟩
  · have HR := hide (show rOne l ⟨true, n⟩ = (l, 4) by unfold rOne; rw [if_pos rfl, if_pos hn])
    have HI := hide hi
    clear hi hn
    go_enter Tryz.func121, Tryz.ntmps121
    go_wp2_with fail
    refine (unhide HF).mono ?_
    rintro e w1 ⟨rfl, o, hw1⟩
    have hm1 := (unhide HM).below (below_new _ o)
    rw [← hw1] at hm1
    clear hw1
    rw [unhide HI]
    obtain ⟨c0, z0⟩ := one_cell hm1.b0
    obtain ⟨d0, d1, d2, d3, d4, d5⟩ := six_cells hm1.b1
    obtain ⟨e0, y0⟩ := one_cell hm1.b2
    have hm2 := hm1.below (below_new w1 (.cells #[.slice none 0 0] 30))
    obtain ⟨c0', z0'⟩ := one_cell hm2.b0
    obtain ⟨d0', d1', d2', d3', d4', d5'⟩ := six_cells hm2.b1
    obtain ⟨e0', y0'⟩ := one_cell hm2.b2
    have hs := hm1.sz
    have nb0 : ¬ w.heap.size = w1.heap.size := by omega
    have nb1 : ¬ w.heap.size + 1 = w1.heap.size := by omega
    have nb2 : ¬ w.heap.size + 1 + 1 = w1.heap.size := by omega
    have HM2 := hide hm2
    clear hm1 hm2
    go_wp2_with fail
    have hf := (unhide HM2).fin (unhide HM2).nat
    refine bodyPost_ret (v := .tuple #[.agg #[.slice ao l.length cap], .int .i64 4]) ?_ rfl ⟨.slice ao l.length cap, by rw [unhide HR], by rw [unhide HR]; exact hf.1, hf.2⟩
    simp [results, Tryz.f121, go_sem, e0']
  · obtain ⟨f, hf⟩ : ∃ f : Nd → Bool, f = fun y => !hitN n.path y := ⟨_, rfl⟩
    have HR := hide (show rOne l ⟨true, n⟩ = (l.filter f, 0) by unfold rOne; rw [if_pos rfl, if_neg (by simp [hn]), hf])
    have i0 : ¬ ((i : Int) < 0) := by omega
    have HI := hide hi
    have HFN := hide hf
    clear hi hn hat hf
    obtain ⟨j0, hj0, hz0, hz1, hz2⟩ := info_parts info_Node5
    go_enter Tryz.func121, Tryz.ntmps121
    go_wp2_with fail
    refine (unhide HF).mono ?_
    rintro e w1 ⟨rfl, o, hw1⟩
    have hm1 := (unhide HM).below (below_new _ o)
    rw [← hw1] at hm1
    clear hw1
    rw [unhide HI]
    obtain ⟨c0, z0⟩ := one_cell hm1.b0
    obtain ⟨d0, d1, d2, d3, d4, d5⟩ := six_cells hm1.b1
    have hm2 := hm1.below (below_new w1 (.cells #[.slice none 0 0] 30))
    obtain ⟨c0', z0'⟩ := one_cell hm2.b0
    obtain ⟨d0', d1', d2', d3', d4', d5'⟩ := six_cells hm2.b1
    have hs := hm1.sz
    have HM2 := hide hm2
    clear hm1 hm2
    go_wp2_with fail
    go_loopw [9] (fun k9 wr => ∃ (k : Nat) (ov : Value), k ≤ l.length ∧ k9 = .int .i64 k ∧ OneM w wr (.slice ao l.length cap) l ⟨true, n⟩ ∧ wr.heap[w1.heap.size]? = some (.cells #[ov] 30 (0, 0)) ∧ wr.ownsRow w.heap.size 76 5 ov ((l.take k).filter f).length (rowD ((l.take k).filter f))) (fun k9 _ => l.length - (intOf k9).toNat)
    case atStart => exact ⟨0, .slice none 0 0, Nat.zero_le _, rfl, unhide HM2, heap_alloc_new w1 _, World.ownsRow_nil _ _ _ _⟩
    case round =>
      obtain ⟨k, ov, hk, rfl, hm, hbo, how⟩ := hrel
      obtain ⟨oo, ocap, hov⟩ := ownsRow_form how.base0
      subst hov
      clear c0 z0 d0 d1 d2 d3 d4 d5 c0' z0' d0' d1' d2' d3' d4' d5'
      obtain ⟨c0, z0⟩ := one_cell hm.b0
      obtain ⟨q0, p0⟩ := one_cell hbo
      by_cases hlt' : k < l.length
      · obtain ⟨p, hp⟩ : ∃ p, l[k]? = some p := ⟨l[k], List.getElem?_eq_getElem hlt'⟩
        obtain ⟨g, capx, he, ⟨y0, y1, y2, y3, y4⟩, lg⟩ := hm.nat.at k p hp
        have hao : ao = some ⟨g, 0, none⟩ := by
          simp only [Value.slice.injEq] at he
          exact he.1
        subst hao
        clear he
        have k0 : (0 : Int) ≤ (k : Int) := Int.natCast_nonneg _
        have k1 : (k : Int) < (l.length : Int) := by omega
        have hts : l.take (k + 1) = l.take k ++ [p] := by rw [List.take_add_one, hp]; rfl
        have HBL := hide (below_any wr p n.path)
        have hlt2 := lt_of_heap hbo
        have HM := hide hm
        have HBO := hide hbo
        have HOW := hide how
        cases hit : hitN n.path p
        · have HT := hide hit
          have HN := hide (show (l.take (k + 1)).filter f = (l.take k).filter f ++ [p] by rw [hts, List.filter_append, unhide HFN]; simp [hit])
          clear hit hts hp hm hbo how
          have hfl : ((l.take k).filter f).length ≤ 1000 := by
            have h1 := List.length_filter_le f (l.take k)
            rw [List.length_take] at h1
            omega
          go_wp2_with fail
          refine (unhide HBL).mono ?_
          rintro e w3 ⟨rfl, hw3⟩
          have hw3 := hw3.symm
          subst hw3
          rw [unhide HT]
          have hb5 : (((l.take k).filter f).length + 1) * 56 ≤ 140737488355328 := by omega
          have hml : ((l.take k).filter f).length + 1 ≤ maxLen := by unfold maxLen; omega
          have hbs : w.heap.size ≤ wr.heap.size := by omega
          go_wp2_with fail
          go_region_law (refine stp_append_from rfl _ _ 28 rfl w.heap.size 76 j0 zNdV 5 56 Tryz.underlying28 hj0 hz0 hz1 hz2 ?g1 ?g2 (.slice oo ((l.take k).filter f).length ocap) ((l.take k).filter f).length (rowD ((l.take k).filter f)) ?g3 ?g4 (.slice (some ⟨wr.heap.size, 0, none⟩) 1 1) 1 (ndC p) ?g5 ?g6 ?g7 ?g8 ?g9 ?g10 ?g11 ?_; (case g1 => rfl); (case g2 => decide); (case g3 => rfl); (case g4 => exact ((unhide HOW).alloc _).drew); (case g5 => rfl); (case g6 => rfl); (case g7 => exact .inr ⟨⟨wr.heap.size, 0, none⟩, 1, rfl, World.news_of_block (cs := (ndC p).toArray) (t := 76) (fr := (0, 0)) (heap_alloc_new wr _)⟩); (case g8 => simp [ndC, Value.oneCell']); (case g9 => exact hml); (case g10 => exact hb5); (case g11 => simp; omega); intro v2 w2 ho2 hg2 hp2; obtain ⟨ao2, cap2, hv2⟩ := ownsRow_form ho2.base0; subst hv2; have hst := (unhide HM).step (unhide HNAT) (unhide HOW) (unhide HBO) hs ((below_new wr _).drew) hg2 ho2; obtain ⟨q2, p2⟩ := one_cell hst.2.2.2; have HST := hide hst; clear ho2 hg2 hp2 hst)
          all_goals
            go_wp2_with fail
            go_roundw
            case rel =>
              obtain ⟨s1, s2, s3, _⟩ := unhide HST
              exact ⟨k + 1, _, by omega, by go_num, s1, s2, by rw [unhide HN, rowD_snoc, List.length_append]; exact s3⟩
            case measure => simp [intOf]; omega
        · have HT := hide hit
          have HN := hide (show (l.take (k + 1)).filter f = (l.take k).filter f by rw [hts, List.filter_append, unhide HFN]; simp [hit])
          clear hit hts hp hm hbo how
          go_wp2_with fail
          refine (unhide HBL).mono ?_
          rintro e w3 ⟨rfl, hw3⟩
          have hw3 := hw3.symm
          subst hw3
          rw [unhide HT]
          go_wp2_with fail
          go_roundw
          case rel => exact ⟨k + 1, _, by omega, by go_num, unhide HM, unhide HBO, by rw [unhide HN]; exact unhide HOW⟩
          case measure => simp [intOf]; omega
      · have hk' : l.take k = l := List.take_of_length_le (by omega)
        rw [hk'] at how
        obtain ⟨e0, x0⟩ := one_cell hm.b2
        have HM := hide hm
        have HOW := hide how
        clear hm hbo how
        go_wp2_with fail
        have hfin := (unhide HM).fin (unhide HOW).base0
        refine bodyPost_ret (v := .tuple #[.agg #[.slice oo (l.filter f).length ocap], .int .i64 0]) ?_ rfl ⟨_, by rw [unhide HR], by rw [unhide HR]; exact hfin.1, hfin.2⟩
        simp [results, Tryz.f121, go_sem, e0]
end Go.Proofs.YtcbindgpbeaebaaGreatDoor

namespace Go.Proofs.YtcbindgpbeaebaaGreatDoor
open Go.RowKit Go.Deep
attribute [local go_sem ↓] Go.wp_at_zero Go.wp_at_succ

theorem tailN_none (k : Int) (len : Nat) : tailN none k len = if 60 ≤ len then 8 else 0 := by unfold tailN; simp
theorem tailN_some (m : Nd) (k : Int) (len : Nat) : tailN (some m) k len = if m.kind ≠ k then 6 else 0 := by unfold tailN; simp
theorem NAt.at5 {w : World} {g cap : Nat} {l : List Nd} (h : NAt w (.slice (some ⟨g, 0, none⟩) l.length cap) l) (k : Nat) (p : Nd) (hk : l[k]? = some p) : At5 w g k p := by
  obtain ⟨g', c', he, h5, _⟩ := h.at k p hk
  have : g = g' := by
    simp only [Value.slice.injEq, Option.some.injEq, Addr.mk.injEq] at he
    exact he.1.1
  subst this
  exact h5
theorem rOne_err {l : List Nd} {n : Nd} {c : Int} (h : rPutErr l n = c) (hc : c ≠ 0) : rOne l ⟨false, n⟩ = (l, c) := by
  unfold rOne
  rw [if_neg (by simp), h, if_pos hc]
theorem rOne_ok {l : List Nd} {n : Nd} (h : rPutErr l n = 0) : rOne l ⟨false, n⟩ = (insN l n, 0) := by
  unfold rOne
  rw [if_neg (by simp), h, if_neg (by simp)]
theorem less_cmp : ∀ a b : List UInt8, Op.bytesLess a b = decide (Lib.compareBytes a b < 0)
  | [], [] => rfl
  | [], _ :: _ => rfl
  | _ :: _, [] => rfl
  | a :: x, b :: y => by
    have ih := less_cmp x y
    unfold Op.bytesLess Lib.compareBytes
    by_cases h1 : a < b
    · simp [h1]
    · by_cases h2 : b < a
      · have h3 : (a == b) = false := by
          simp
          intro e
          subst e
          exact h1 h2
        simp [h1, h2, h3]
      · have h3 : a = b := by
          have e1 : ¬ a.toNat < b.toNat := fun h => h1 (UInt8.lt_iff_toNat_lt.2 h)
          have e2 : ¬ b.toNat < a.toNat := fun h => h2 (UInt8.lt_iff_toNat_lt.2 h)
          exact UInt8.toNat_inj.1 (by omega)
        subst h3
        simp [ih, h1]
theorem less_cmpB (a b : ByteArray) : Op.bytesLess a.toList b.toList = decide (cmpB a b < 0) := by
  rw [less_cmp, Lib.toList_data, Lib.toList_data]
  rfl
theorem rowD_take : ∀ (l : List Nd) (k : Nat), rowD (l.take k) = (rowD l).take (k * 5)
  | [], k => by simp [rowD]
  | x :: r, 0 => by simp [rowD]
  | x :: r, k + 1 => by
    have ih := rowD_take r k
    unfold rowD at ih ⊢
    rw [List.take_succ_cons, List.flatMap_cons, List.flatMap_cons, ih, show (k + 1) * 5 = (ndC x).length + k * 5 by simp [ndC]; omega, List.take_length_add_append]
theorem rowD_drop : ∀ (l : List Nd) (k : Nat), rowD (l.drop k) = (rowD l).drop (k * 5)
  | [], k => by simp [rowD]
  | x :: r, 0 => by simp [rowD]
  | x :: r, k + 1 => by
    have ih := rowD_drop r k
    unfold rowD at ih ⊢
    rw [List.drop_succ_cons, List.flatMap_cons, ih, show (k + 1) * 5 = (ndC x).length + k * 5 by simp [ndC]; omega, List.drop_length_add_append]
theorem NAt.cells {w : World} {g cap : Nat} {l : List Nd} (h : NAt w (.slice (some ⟨g, 0, none⟩) l.length cap) l) (o j : Nat) (u : Value) (hu : (rowD l)[o + j]? = some u) : w.cell? ((⟨g, o, none⟩ : Addr).add j) = some u := by
  have := World.ownsRow.cells h (g := g) rfl (o + j) u hu
  rw [addr0] at this
  have e : (⟨g, o, none⟩ : Addr).add j = ⟨g, o + j, none⟩ := by unfold Addr.add; split <;> simp_all
  rw [e]; exact this
theorem NAt.cap {w : World} {g cap : Nat} {l : List Nd} (h : NAt w (.slice (some ⟨g, 0, none⟩) l.length cap) l) : l.length ≤ cap := by
  rcases h.2 with ⟨e, _⟩ | ⟨g', c', cur, e, _, _, hc, _⟩
  · cases e
  · simp only [Value.slice.injEq] at e
    omega
theorem OneM.drewN {w0 w : World} {v : Value} {l : List Nd} {x : Dd} (h : OneM w0 w v l x) (k : Nat) : OneM w0 (w.drewN k) v l x := ⟨h.b0, h.b1, h.b2, h.nat, ⟨h.bel.os, h.bel.tape, h.bel.output, h.bel.size, h.bel.block⟩, h.sz⟩
/-- Where the parent is no hindrance. -/
def Par (l : List Nd) (up : ByteArray) (j : Int) : Prop := up.toList.isEmpty = true ∨ (up.toList.isEmpty = false ∧ ∃ (k : Nat) (m : Nd), j = (k : Int) ∧ l[k]? = some m ∧ k < l.length ∧ m.kind ≠ 1)
theorem par_err {l : List Nd} {n : Nd} {j : Int} (hp : Par l (parentB n.path) j) (hj : findI l (parentB n.path) = j) : rPutErr l n = tailN (findN l n.path) n.kind l.length := by
  unfold rPutErr
  rcases hp with h | ⟨_, k, m, rfl, hk, hl, hm⟩
  · rw [isEmpty_size] at h
    have h0 : (parentB n.path).size = 0 := by simpa using h
    rw [if_neg (by simp [h0]), if_neg (by simp [h0])]
    rfl
  · have hf : findN l (parentB n.path) = some m := by
      rcases findI_cases l (parentB n.path) with ⟨h1, _⟩ | ⟨k', m', h1, h2, h3, _⟩
      · rw [hj] at h1; omega
      · rw [hj] at h1
        have : k = k' := by omega
        subst this
        rw [hk] at h3
        cases h3
        exact h2
    rw [hf, if_neg (by simp), if_neg (by simp [hm])]
    rfl

theorem atN_lt {l : List Nd} {p : ByteArray} {m : Nd} (h : findN l p = some m) : atN l p < l.length := by
  induction l with
  | nil => simp [findN] at h
  | cons y r ih =>
    unfold atN
    split
    · next hlt =>
      have : findN r p = some m := by
        unfold findN at h ⊢
        rw [List.find?_cons] at h
        have h0 : (cmpB y.path p == 0) = false := by simp; omega
        rw [h0] at h
        exact h
      have := ih this
      simp
      omega
    · simp
/-- Behind the loop: the place is found. -/
def CutL (w : World) (b g cap : Nat) (l : List Nd) (n : Nd) (s : Value) (wx : World) : Prop :=
  ∃ k : Nat, s = .int .i64 k ∧ k ≤ l.length ∧ atN l n.path = k ∧ OneM w wx (.slice (some ⟨g, 0, none⟩) l.length cap) l ⟨false, n⟩ ∧ wx.heap[b]? = some (.cells #[.slice none 0 0] 30 (0, 0))
/-- Behind an append to 'out.l'. -/
def CutR (w : World) (b g cap : Nat) (l : List Nd) (n : Nd) (m : Nat) (ys : List Value) (wx : World) : Prop :=
  ∃ ao c, OneM w wx (.slice (some ⟨g, 0, none⟩) l.length cap) l ⟨false, n⟩ ∧ wx.heap[b]? = some (.cells #[.slice ao m c] 30 (0, 0)) ∧ wx.ownsRow w.heap.size 76 5 (.slice ao m c) m ys
end Go.Proofs.YtcbindgpbeaebaaGreatDoor
