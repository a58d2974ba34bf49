import Derived.Test.YtcbindgpbeaebaaDoorIterB
import Derived.Maps.AppendAt
namespace Go.Proofs.YtcbindgpbeaebaaDoor
open Go.RowKit Go.Deep Go.Shelf
attribute [local go_sem] Oper.semAt_some

theorem info_placed : (Tryd.prog.info? 88).map (fun i => (i.zero, i.size, i.bytes)) = some (some zPl, 6, 64) := by kernel_rfl
def rowP (xs : List Ps) : List Value := xs.flatMap fun x => plC x.1
theorem rowP_snoc (pre : List Ps) (x : Ps) : rowP (pre ++ [x]) = rowP pre ++ plC x.1 := by simp [rowP]

set_option maxRecDepth 100000 in
set_option maxHeartbeats 6400000 in
theorem appendSeq_in (w : World) (Bn B bm : Nat) (ev : Value) (M : List Pl) (xs : List Ps) (hxs : xs.map (·.1) = M) (hc : w.cell? ⟨Bn, 0, none⟩ = some (.pointer (some ⟨bm, 0, none⟩))) (h : MAt w B bm ev M) (hm : M.length ≤ 1000) :
    CallsIn Fence.wide 6 Tryd.prog 117 #[.slice none 0 0, .func (.func 62) #[] #[.pointer (some ⟨Bn, 0, none⟩)]] w fun e W' => ∃ v, e = .returned v ∧ W'.ownsRow w.heap.size 88 6 v xs.length (rowP xs) ∧ Below w.heap.size w W' := by
  obtain ⟨i0, hi0, hz0, hz1, hz2⟩ := info_parts info_placed
  have hlen : xs.length ≤ 1000 := by rw [← hxs, List.length_map] at hm; exact hm
  refine callsIn_of_wp_marks Tryd.func117 rfl trivial ?_ rfl
  simp only [Tryd.ntmps117, List.size_toArray, List.length_cons, List.length_nil, Nat.reduceAdd, Nat.reduceSub, Array.replicate_succ, Array.replicate_zero, List.push_toArray, List.append_toArray, List.nil_append, List.cons_append]
  gi_wp2
  obtain ⟨W0, hW0⟩ : ∃ W0, W0 = w.alloc (.cells #[.slice none 0 0] 161) := ⟨_, rfl⟩
  have hB0 : Below w.heap.size w W0 := by rw [hW0]; exact (Below.refl _ w).alloc (Nat.le_refl _) _
  have hsz : W0.heap.size = w.heap.size + 1 := by rw [hW0]; simp
  have bO : Boxed W0 w.heap.size 161 (.slice none 0 0) := by rw [hW0]; exact Boxed.new w _ _
  have hBn : Bn < w.heap.size := World.block_lt_of_cell? w _ hc
  have hc0 : W0.cell? ⟨Bn, 0, none⟩ = some (.pointer (some ⟨bm, 0, none⟩)) := (hB0.cell (p := ⟨Bn, 0, none⟩) hBn).trans hc
  rw [← hW0]
  clear hW0
  refine wpIn_rangeFunc_ownH rfl (by omega) (gf := 62) (lb := #[.pointer (some ⟨Bn, 0, none⟩)]) rfl trivial (enters_of Tryd.func62 (by kernel_rfl) rfl)
    (all_stops 5 (by omega) Bn bm B w.heap.size ev M xs hxs hm W0 (by omega) (by omega) hc0 (h.below hB0) h.lt (fun g hg => (h.row.lt g hg).2)) belowK_t (belowK_b (by omega)) (Below.refl _ _) (fun _ => rfl)
    (fun pre W => (∃ v, Boxed W w.heap.size 161 v ∧ W.ownsRow w.heap.size 88 6 v pre.length (rowP pre) ∧ True) ∧ Below w.heap.size w W)
    (fun _ _ _ => False)
    (OwnFrom.and (Own.from (holdsRow_own w.heap.size w.heap.size 161 88 6 (fun pre => pre.length) (fun pre => rowP pre) (fun _ _ => True)) _) (ownFrom_below (Nat.le_refl _) (by omega)))
    (fun _ _ _ _ _ hs _ _ => hs)
    ⟨⟨_, bO, World.ownsRow_nil _ _ _ _, trivial⟩, hB0⟩
    (fun x a' W => ∃ Bx, w.heap.size < Bx ∧ W.heap[Bx]? = some (.cells (plC x.1).toArray 88 (0, 0)) ∧ a' = { tmps := #[.slice none 0 0, .func (.func 62) #[] #[.pointer (some ⟨Bn, 0, none⟩)], .pointer (some ⟨w.heap.size, 0, none⟩), undef, .slice none 0 0, .pointer (some ⟨Bx, 0, none⟩), .func (.func 62) #[] #[.pointer (some ⟨Bn, 0, none⟩)], .agg #[.int .i64 (x.1.slot : Int), .string x.1.node.path, .int .i64 x.1.node.kind, .int .i64 x.1.node.mode, .int .i64 x.1.node.tag, .string x.1.node.data], undef, undef, undef, undef, undef], defers := [] })
    (fun x a' _ X Y row hs hg hr => by
      obtain ⟨Bx, h1, h2, h3⟩ := hs
      refine ⟨Bx, h1, (hg.block Bx (lt_of_heap h2) fun e => ?_).trans h2, h3⟩
      obtain ⟨_, o, ho, hcc⟩ := hr Bx e.symm
      rw [h2] at ho
      cases ho
      cases hcc)
    ?assign ?body ?done ?stop
  case assign =>
    rintro l pre x W K ⟨⟨v, hv, hrow, _⟩, hB1⟩ hK
    dsimp only [encP]
    gi_wp2
    exact hK _ _ ((KeepsOthers.alloc _ _).from _) ((Below.refl _ W).alloc hB1.size _) ⟨⟨v, hv.alloc _, hrow.alloc _, trivial⟩, hB1.alloc hB1.size _⟩ ⟨W.heap.size, hv.lt, heap_alloc_new W _, rfl⟩
  case body =>
    rintro l pre x a' W hl ⟨r, hr⟩ ⟨⟨v, hv, hrow, _⟩, hB1⟩ ⟨Bx, hBx, bX, rfl⟩ hlt
    have cX := fun j => cell_of_row W Bx j _ _ _ bX
    have x0 := cX 0
    have x1 := cX 1
    have x2 := cX 2
    have x3 := cX 3
    have x4 := cX 4
    have x5 := cX 5
    simp [plC] at x0 x1 x2 x3 x4 x5
    clear cX
    have hcv := hv.cell
    have hsW := hB1.size
    have k1 : ∀ u ∈ plC x.1, u.oneCell' = true := by simp [plC, Value.oneCell']
    have k2 : pre.length + 1 ≤ maxLen := by unfold maxLen; omega
    have k3 : (pre.length + 1) * 64 ≤ 140737488355328 := by omega
    have k4 : ∀ o, w.heap.size ≤ (W.alloc o).heap.size := fun o => by rw [World.size_alloc]; omega
    have k5 : ∀ j u, (plC x.1)[j]? = some u → (W.alloc (.cells #[.int .i64 (x.1.slot : Int), .string x.1.node.path, .int .i64 x.1.node.kind, .int .i64 x.1.node.mode, .int .i64 x.1.node.tag, .string x.1.node.data] 88)).cell? ((⟨W.heap.size, 0, none⟩ : Addr).add j) = some u := fun j u hj =>
      cells_at (L := plC x.1) (t := 88) (heap_alloc_new W (.cells (plC x.1).toArray 88)) 0 j u (by simpa using hj)
    gi_wp2_with (gi_at_builtin; refine wpListIn_append_own _ rfl _ _ 161 rfl w.heap.size 88 i0 zPl 6 64 Tryd.underlying161 hi0 hz0 hz1 hz2 rfl (by decide) _ _ _ rfl (hrow.alloc _) ⟨W.heap.size, 0, none⟩ 1 1 (plC x.1) rfl rfl k5 k1 k2 k3 (k4 _) ?_; intro v' w1 hown' hgrow _; obtain ⟨g', cap', rfl⟩ := ownsRow_succ hown'; obtain ⟨hv1, hv2, hr2, hk2, hb2⟩ := hv.appended (by decide) hrow hB1.size (Nat.le_refl _) hown' hgrow; have hc1 := hv1.cell; have hf1 := hv1.frozen)
    refine ⟨hk2.from _, hb2, ⟨_, hv2, ?_, trivial⟩, hB1.trans hb2⟩
    rw [rowP_snoc, List.length_append]
    exact hr2
  case done =>
    rintro D zs W hD hzs ⟨⟨v, hv, hrow, _⟩, hB1⟩ hK
    rw [hzs] at hrow
    have hcv := hv.cell
    gi_wp2
    refine ⟨by simp, .inl ⟨_, _, rfl, run_takeDeferred hK, ?_⟩⟩
    refine ⟨_, results_tmp rfl _ _ _, v, rfl, ownsRow_putObj hrow _ hK rfl, hB1.trans (belowK_b (w := w) (Nat.le_refl _) W D _ _ (by omega) hK rfl rfl)⟩
  case stop =>
    rintro D c pre W _ _ hf _
    exact hf.elim

theorem collect_any (w : World) (Bn B bm : Nat) (ev : Value) (M : List Pl) (xs : List Ps) (hxs : xs.map (·.1) = M) (hc : w.cell? ⟨Bn, 0, none⟩ = some (.pointer (some ⟨bm, 0, none⟩))) (h : MAt w B bm ev M) (hm : M.length ≤ 1000) :
    Calls Tryd.prog 98 #[.func (.func 62) #[] #[.pointer (some ⟨Bn, 0, none⟩)]] w fun e W' => ∃ v, e = .returned v ∧ W'.ownsRow w.heap.size 88 6 v xs.length (rowP xs) ∧ Below w.heap.size w W' := by
  have ha := callsIn_wide.1 (appendSeq_in w Bn B bm ev M xs hxs hc h hm)
  go_enter Tryd.func98, Tryd.ntmps98
  go_wp2_with fail
  refine ha.mono ?_
  rintro e w1 ⟨v, rfl, ho, hb⟩
  go_wp2_with fail
  go_ret
  exact ⟨v, rfl, ho, hb⟩
theorem all_any (w : World) (bm : Nat) :
    Calls Tryd.prog 38 #[.pointer (some ⟨bm, 0, none⟩)] w fun e w' => e = .returned (.func (.func 62) #[] #[.pointer (some ⟨w.heap.size, 0, none⟩)]) ∧ w' = w.alloc (.cells #[.pointer (some ⟨bm, 0, none⟩)] 84) :=
  callsIn_wide.1 (all_in 6 bm w)
end Go.Proofs.YtcbindgpbeaebaaDoor
