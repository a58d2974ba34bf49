import Derived.Test.YtcbindgpbeaebaaRefA
import Derived.Laws.AppendOwnNone
namespace Go.Proofs.Ytcbindgpbeaebaa
open Go.RowKit Go.Deep
attribute [local go_sem ↓] Go.wp_at_zero Go.wp_at_succ

theorem grownBy_refl (w : World) (r : Option Nat) : w.grownBy w r := ⟨rfl, rfl, rfl, Nat.le_refl _, fun _ _ _ => rfl⟩
theorem flat_one : ∀ (l : List (Nat × ByteArray)) (u : Value), u ∈ flat l → u.oneCell' = true
  | [], _, h => by simp [flat] at h
  | (a, s) :: r, u, h => by
    simp only [flat, List.mem_cons] at h
    rcases h with rfl | rfl | h
    · rfl
    · rfl
    · exact flat_one r u h
/-- 'append(nil, src...)': a row of its own. -/
theorem wpList_append_copy {P : Program} (w : World) {ops : Array Oper} {rest : List Oper} {o : Oper} {a : Act} {Q : Exit → Act → World → Prop} (hgd : o.guard = none) (s x : Operand) (t : TypeId)
    (ho : o.op = .call { callee := .builtin .append, args := #[s, x], argTypes := #[t, t] })
    (base : Nat) (e : TypeId) (i : TypeInfo) (z : Value) (size bytes : Nat) (ht : P.underlying t = some (.slice e)) (hi : P.info? e = some i) (hz : i.zero = some z)
    (hsize : i.size = size) (hby : i.bytes = bytes) (hzs : z.cells.size = size) (hsz : 0 < size)
    (hs : a.eval s = .slice none 0 0) (src : Value) (n : Nat) (xs : List Value) (hx : a.eval x = src) (hsrc : w.ownsRow 0 e size src n xs) (h1 : ∀ u ∈ xs, u.oneCell' = true)
    (h63 : n ≤ maxLen) (hbytes : n * bytes ≤ 140737488355328) (hbase : base ≤ w.heap.size)
    (h : ∀ v' w', w'.ownsRow base e size v' n xs → w.grownBy w' none → wpList P ops Q rest (a.put o.dst v') w') : wpList P ops Q (o :: rest) a w := by
  have hl := hsrc.1
  rcases hsrc.2 with ⟨hv, hn⟩ | ⟨g, cap, _, hv, _⟩
  · subst hn
    have hxs : xs = [] := List.eq_nil_of_length_eq_zero (by omega)
    subst hxs
    refine wpList_append_own_none hgd s x t ho base e i size ht hi (.slice none 0 0) 0 [] hs (World.ownsRow_nil _ _ _ _) (by rw [hx, hv]) ?_
    exact h _ _ (World.ownsRow_nil _ _ _ _) (grownBy_refl _ _)
  · refine wpList_append_own w hgd s x t ho base e i z size bytes ht hi hz hsize hby hzs hsz (.slice none 0 0) 0 [] hs (World.ownsRow_nil _ _ _ _) ⟨g, 0, none⟩ n cap xs (by rw [hx, hv]) hl (fun j u hj => hsrc.cells (g := g) (by rw [hv]; rfl) j u hj) h1 (by rw [Nat.zero_add]; exact h63) (by rw [Nat.zero_add]; exact hbytes) hbase ?_
    intro v' w' ho' hgr _
    rw [Nat.zero_add, List.nil_append] at ho'
    exact h v' w' ho' hgr

theorem ownsRow_ne {w : World} {b : Nat} {e t : TypeId} {size : Nat} {v : Value} {n k : Nat} {xs : List Value} {cs : Array Value} {fr : Nat × Nat} (h : w.ownsRow b e size v n xs) (hk : w.heap[k]? = some (.cells cs t fr)) (hne : e ≠ t) : v.ownBlock ≠ some k := by
  intro hv
  rcases h.2 with ⟨e1, _⟩ | ⟨g, cap, cur, e1, _, hg, _⟩
  · rw [e1] at hv; cases hv
  · rw [e1] at hv
    have : g = k := by simpa [Value.ownBlock] using hv
    subst this
    rw [hg] at hk
    simp only [Option.some.injEq, Obj.cells.injEq] at hk
    exact hne hk.2.1
theorem ownsRow_set {w : World} {b : Nat} {e : TypeId} {size : Nat} {v : Value} {n : Nat} {xs : List Value} (h : w.ownsRow b e size v n xs) (a : Addr) (hne : v.ownBlock ≠ some a.block) (u : Value) : (w.setCell a u).ownsRow b e size v n xs :=
  ownsRow_kept h fun _ hg => Below.heap_setCell _ _ _ _ (fun e => hne (e ▸ hg))
/-- What is known of a block of three cells. -/
theorem three_cells {w : World} {b : Nat} {x y z : Value} {t : TypeId} (h : w.heap[b]? = some (.cells #[x, y, z] t (0, 0))) :
    w.cell? ⟨b, 0, none⟩ = some x ∧ w.cell? ⟨b, 1, none⟩ = some y ∧ w.cell? ⟨b, 2, none⟩ = some z ∧ w.frozen? ⟨b, 0, none⟩ = false ∧ w.frozen? ⟨b, 1, none⟩ = false ∧ w.frozen? ⟨b, 2, none⟩ = false := by
  refine ⟨?_, ?_, ?_, frozen_of_row w b 0 _ _ h, frozen_of_row w b 1 _ _ h, frozen_of_row w b 2 _ _ h⟩
  · rw [cell_of_row w b 0 _ _ _ h]; rfl
  · rw [cell_of_row w b 1 _ _ _ h]; rfl
  · rw [cell_of_row w b 2 _ _ _ h]; rfl
theorem heap_three (w : World) (x y z : Obj) : (((w.alloc x).alloc y).alloc z).heap[w.heap.size]? = some x ∧ (((w.alloc x).alloc y).alloc z).heap[w.heap.size + 1]? = some y ∧ (((w.alloc x).alloc y).alloc z).heap[w.heap.size + 1 + 1]? = some z ∧ (((w.alloc x).alloc y).alloc z).heap.size = w.heap.size + 3 := by
  refine ⟨?_, ?_, ?_, by simp⟩
  · rw [Below.heap_alloc _ _ _ (by simp; omega), Below.heap_alloc _ _ _ (by simp), heap_alloc_new]
  · rw [Below.heap_alloc _ _ _ (by simp), heap_two']
  · have := heap_two' (w.alloc x) y z
    rw [show (w.alloc x).heap.size = w.heap.size + 1 by simp] at this
    exact this

set_option maxRecDepth 100000 in
set_option maxHeartbeats 3200000 in
theorem rCopy_any (B : Nat) (w : World) (R : Rf) (sv pv : Value) (h : RAt B w R sv pv) :
    Calls Try.prog 38 #[.agg #[.int .i64 R.many, sv, pv]] w fun e w' => ∃ sv' pv', e = .returned (.agg #[.int .i64 R.many, sv', pv']) ∧ RAt w.heap.size w' R sv' pv' ∧ Below w.heap.size w w' := by
  obtain ⟨i0, hi0, hz0, hz1, hz2⟩ := info_parts info_block
  have hsl := h.sl
  have hpl := h.pl
  obtain ⟨so, scap, hsv⟩ := ownsRow_form h.sure.base0
  obtain ⟨po, pcap, hpv⟩ := ownsRow_form h.put.base0
  subst hsv hpv
  have hS := h.sure.base0
  have hP := h.put.base0
  obtain ⟨k0, k1, k2, ks⟩ := heap_three w (.cells #[.int .i64 R.many, .slice so R.sure.length scap, .slice po R.put.length pcap] 30) (.cells #[.int .i64 0, .slice none 0 0, .slice none 0 0] 30) (.cells #[.int .i64 R.many, .slice none 0 0, .slice none 0 0] 30)
  have K0 := hide k0
  have K1 := hide k1
  have K2 := hide k2
  have KS := hide ks
  clear k0 k1 k2 ks
  go_enter Try.func38, Try.ntmps38
  go_wp2_with (first
    | (at_builtin
       refine wpList_append_copy _ (by rfl) (.tmp 8) (.tmp 10) 28 (by rfl) w.heap.size 84 i0 _ 2 24 Try.underlying28 hi0 hz0 hz1 hz2 rfl (by omega) (by rfl) (.slice so R.sure.length scap) R.sure.length (flat R.sure) (by rfl) (((hS.alloc _).alloc _).alloc _) (flat_one _) (by simp [maxLen]; omega) (by omega) (by simp; omega) ?_
       intro v4 w4 ho4 hg4
       obtain ⟨ao4, cap4, rfl⟩ := ownsRow_form ho4.base0
       have s4 : w.heap.size + 3 ≤ w4.heap.size := by have := hg4.size; rw [unhide KS] at this; exact this
       have b0 := (hg4.block w.heap.size (by rw [unhide KS]; omega) (by simp)).trans (unhide K0)
       have b1 := (hg4.block (w.heap.size + 1) (by rw [unhide KS]; omega) (by simp)).trans (unhide K1)
       have b2 := (hg4.block (w.heap.size + 1 + 1) (by rw [unhide KS]; omega) (by simp)).trans (unhide K2)
       have hP4 : w4.ownsRow 0 84 2 (.slice po R.put.length pcap) R.put.length (flat R.put) := ownsRow_kept (((hP.alloc _).alloc _).alloc _) fun g hg => hg4.block g (by have := (hP.lt g hg).2; rw [unhide KS]; omega) (by simp)
       obtain ⟨a00, a01, a02, z00, z01, z02⟩ := three_cells b0
       obtain ⟨a20, a21, a22, z20, z21, z22⟩ := three_cells b2
       have hP5 := ownsRow_setOther hP4 ⟨w.heap.size + 1 + 1, 1, none⟩ (fun e => by have := (hP.lt _ e).2; simp only at this; omega) (.slice ao4 R.sure.length cap4)
       have b25 := heap_setCell_same w4 (w.heap.size + 1 + 1) 1 _ _ (.slice ao4 R.sure.length cap4) b2
       have b15 := (Below.heap_setCell w4 ⟨w.heap.size + 1 + 1, 1, none⟩ (.slice ao4 R.sure.length cap4) (w.heap.size + 1) (by simp)).trans b1
       have ho5 := ownsRow_setOther ho4.base0 ⟨w.heap.size + 1 + 1, 1, none⟩ (ownsRow_ne ho4 b2 (by decide)) (.slice ao4 R.sure.length cap4)
       have HO4 := hide ho4
       have HG4 := hide hg4
       have HP5 := hide hP5
       have HB25 := hide b25
       have HB15 := hide b15
       have HB2 := hide b2
       clear ho4 hg4 hP4 b0 b1 b2 hP5 b25 b15 ho5)
    | (at_builtin
       refine wpList_append_copy _ (by rfl) (.tmp 14) (.tmp 16) 28 (by rfl) w.heap.size 84 i0 _ 2 24 Try.underlying28 hi0 hz0 hz1 hz2 rfl (by omega) (by rfl) (.slice po R.put.length pcap) R.put.length (flat R.put) (by rfl) (unhide HP5) (flat_one _) (by simp [maxLen]; omega) (by omega) (by simp [World.setCell]; omega) ?_
       intro v6 w6 ho6 hg6
       obtain ⟨ao6, cap6, rfl⟩ := ownsRow_form ho6.base0
       have b26 := (hg6.block (w.heap.size + 1 + 1) (by simp [World.setCell]; omega) (by simp)).trans (unhide HB25)
       have b16 := (hg6.block (w.heap.size + 1) (by simp [World.setCell]; omega) (by simp)).trans (unhide HB15)
       simp only [List.setIfInBounds_toArray, List.set_cons_succ, List.set_cons_zero] at b26
       obtain ⟨d20, d21, d22, y20, y21, y22⟩ := three_cells b26
       obtain ⟨d10, d11, d12, y10, y11, y12⟩ := three_cells b16
       have HO6 := hide ho6
       have HG6 := hide hg6
       have HB26 := hide b26
       have HB16 := hide b16
       clear ho6 hg6 b26 b16))
  have n4 : (Value.slice ao4 R.sure.length cap4).ownBlock ≠ some (w.heap.size + 1 + 1) := ownsRow_ne (unhide HO4) (unhide HB2) (by decide)
  have o5 := ownsRow_set (unhide HO4) ⟨w.heap.size + 1 + 1, 1, none⟩ n4 (.slice ao4 R.sure.length cap4)
  have o6 := ownsRow_kept o5 fun g hg => (unhide HG6).block g (o5.lt g hg).2 (by simp)
  have n41 : (Value.slice ao4 R.sure.length cap4).ownBlock ≠ some (w.heap.size + 1) := ownsRow_ne o6 (unhide HB16) (by decide)
  have n62 : (Value.slice ao6 R.put.length cap6).ownBlock ≠ some (w.heap.size + 1 + 1) := ownsRow_ne (unhide HO6) (unhide HB26) (by decide)
  have n61 : (Value.slice ao6 R.put.length cap6).ownBlock ≠ some (w.heap.size + 1) := ownsRow_ne (unhide HO6) (unhide HB16) (by decide)
  have bel : Below w.heap.size w w6 := by
    refine (((((Below.refl _ _).alloc (Nat.le_refl _) _).alloc (by simp) _).alloc (by simp; omega) _).grown (unhide HG4) (by simp; omega) (by simp)).trans ?_
    exact ((Below.refl _ _).setCell (by simp; omega) _).grown (unhide HG6) (by simp [World.setCell]; omega) (by simp)
  refine bodyPost_ret (v := .agg #[.int .i64 R.many, .slice ao4 R.sure.length cap4, .slice ao6 R.put.length cap6]) (by simp [results, Try.results38, go_sem, *]) rfl ⟨_, _, rfl, ⟨?_, ?_, hsl, hpl⟩, ?_⟩
  · exact ownsRow_set (ownsRow_set (ownsRow_set (ownsRow_set o6 _ n4 _) _ n41 _) _ n41 _) _ n41 _
  · exact ownsRow_set (ownsRow_set (ownsRow_set (ownsRow_set (unhide HO6) _ n62 _) _ n61 _) _ n61 _) _ n61 _
  · exact (((bel.setCell (by simp; omega) _).setCell (by simp) _).setCell (by simp) _).setCell (by simp) _
theorem three_alloc {w : World} {b : Nat} {x y z : Value} {t : TypeId} (h : w.heap[b]? = some (.cells #[x, y, z] t (0, 0))) (o : Obj) : (w.alloc o).heap[b]? = some (.cells #[x, y, z] t (0, 0)) :=
  (Below.heap_alloc _ _ _ (lt_of_heap h)).trans h
theorem heap_pair (w : World) (x y : Obj) : ((w.alloc x).alloc y).heap[w.heap.size]? = some x ∧ ((w.alloc x).alloc y).heap[w.heap.size + 1]? = some y ∧ ((w.alloc x).alloc y).heap.size = w.heap.size + 2 := by
  refine ⟨?_, heap_two' _ _ _, by simp⟩
  rw [Below.heap_alloc _ _ _ (by simp), heap_alloc_new]

set_option maxRecDepth 100000 in
set_option maxHeartbeats 3200000 in
theorem rDrop_any (B : Nat) (w : World) (R : Rf) (sv pv : Value) (h : RAt B w R sv pv) :
    Calls Try.prog 25 #[.agg #[.int .i64 R.many, sv, pv]] w fun e w' => ∃ sv', e = .returned (.agg #[.int .i64 R.many, sv', .slice none 0 0]) ∧ RAt w.heap.size w' { R with put := [] } sv' (.slice none 0 0) ∧ Below w.heap.size w w' := by
  obtain ⟨so, scap, hsv⟩ := ownsRow_form h.sure.base0
  obtain ⟨po, pcap, hpv⟩ := ownsRow_form h.put.base0
  subst hsv hpv
  obtain ⟨k0, k1, ks⟩ := heap_pair w (.cells #[.int .i64 R.many, .slice so R.sure.length scap, .slice po R.put.length pcap] 30) (.cells #[.int .i64 0, .slice none 0 0, .slice none 0 0] 30)
  have K0 := hide k0
  have K1 := hide k1
  have KS := hide ks
  have HA := hide (fun x y => (h.alloc x).alloc y)
  clear k0 k1 ks
  go_enter Try.func25, Try.ntmps25
  go_wp2_with fail
  refine (rCopy_any B _ R (.slice so R.sure.length scap) (.slice po R.put.length pcap) ((unhide HA) _ _)).mono ?_
  rintro e w2 ⟨sv2, pv2, rfl, h2, bel2⟩
  rw [unhide KS] at h2 bel2
  obtain ⟨so2, scap2, hsv2⟩ := ownsRow_form h2.sure.base0
  obtain ⟨po2, pcap2, hpv2⟩ := ownsRow_form h2.put.base0
  subst hsv2 hpv2
  have s2 : w.heap.size + 2 ≤ w2.heap.size := by have := bel2.size; rw [unhide KS] at this; exact this
  have b1 := (bel2.block (w.heap.size + 1) (by omega)).trans (unhide K1)
  have bF := fun o => three_alloc b1 o
  obtain ⟨d10, d11, d12, y10, y11, y12⟩ := three_cells b1
  have c10 := fun o => (three_cells (bF o)).1
  have c11 := fun o => (three_cells (bF o)).2.1
  have c12 := fun o => (three_cells (bF o)).2.2.1
  have e10 := fun o => (three_cells (bF o)).2.2.2.1
  have e11 := fun o => (three_cells (bF o)).2.2.2.2.1
  have e12 := fun o => (three_cells (bF o)).2.2.2.2.2
  have HB1 := hide b1
  have H2 := hide h2
  have HB2 := hide bel2
  clear b1 bF h2 bel2
  go_wp2_with fail
  have oS := (unhide H2).sure.alloc (.cells #[.int .i64 R.many, .slice so2 R.sure.length scap2, .slice none 0 0] 30)
  have n1 : (Value.slice so2 R.sure.length scap2).ownBlock ≠ some (w.heap.size + 1) := ownsRow_ne (unhide H2).sure (unhide HB1) (by decide)
  have bel : Below w.heap.size w (w2.alloc (.cells #[.int .i64 R.many, .slice so2 R.sure.length scap2, .slice none 0 0] 30)) :=
    ((((Below.refl _ _).alloc (Nat.le_refl _) _).alloc (by simp) _).trans ((unhide HB2).mono (by omega))).alloc (by omega) _
  refine bodyPost_ret (v := .agg #[.int .i64 R.many, .slice so2 R.sure.length scap2, .slice none 0 0]) (by simp [results, Try.results25, go_sem, *]) rfl ⟨_, rfl, ⟨?_, World.ownsRow_nil _ _ _ _, (unhide H2).sl, by simp⟩, ?_⟩
  · exact ownsRow_base (ownsRow_set (ownsRow_set (ownsRow_set oS _ n1 _) _ n1 _) _ n1 _) (by omega)
  · exact ((bel.setCell (by simp) _).setCell (by simp) _).setCell (by simp) _
/-- (Log).Put -/
def putR (R : Rf) (a : Int) (s : ByteArray) : Rf × Int :=
  if isR R.many a = false ∨ 256 < s.size then (R, 1)
  else if lookR R.put a = none ∧ 80 ≤ R.put.length then (R, 8)
  else ({ R with put := withR R.put a.toNat (s ++ zs (256 - s.size)) }, 0)
end Go.Proofs.Ytcbindgpbeaebaa
