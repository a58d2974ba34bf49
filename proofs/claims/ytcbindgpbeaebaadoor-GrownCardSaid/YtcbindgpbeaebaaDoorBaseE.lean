import Derived.Test.YtcbindgpbeaebaaDoorBaseD
import Derived.Laws.MakeOwn
namespace Go.Proofs.YtcbindgpbeaebaaDoor
open Go.RowKit Go.Deep Go.Shelf
attribute [local go_sem] Oper.semAt_some

def zNdV : Value := .agg #[.string ⟨#[]⟩, .int .i64 0, .int .i64 0, .int .i64 0, .string ⟨#[]⟩]
theorem info_Node : (Tryd.prog.info? 45).map (fun i => (i.zero, i.size, i.bytes)) = some (some zNdV, 5, 56) := by kernel_rfl
def rowN (xs : List Ps) : List Value := xs.flatMap fun x => ndC x.1.node
theorem rowN_snoc (pre : List Ps) (x : Ps) : rowN (pre ++ [x]) = rowN pre ++ ndC x.1.node := by simp [rowN]

set_option maxRecDepth 100000 in
set_option maxHeartbeats 6400000 in
theorem nodes_load (w : World) (bb : Nat) (M : List Pl) (hs : ∀ p ∈ M, p.slot < 60) (hm : M.length ≤ 60) (hload : Calls Tryd.prog 35 #[.pointer (some ⟨bb, 0, none⟩)] w (LoadPost w M)) :
    Calls Tryd.prog 18 #[.pointer (some ⟨bb, 0, none⟩)] w fun e w' => ∃ v xs, e = .returned (.tuple #[v, .int .i64 0]) ∧ xs.map (·.1) = M ∧ w'.ownsRow w.heap.size 45 5 v xs.length (rowN xs) ∧ Below w.heap.size w w' := by
  obtain ⟨xs, hxs⟩ : ∃ xs : List Ps, xs.map (·.1) = M := ⟨M.attach.map fun p => ⟨p.1, hs p.1 p.2⟩, by simp⟩
  obtain ⟨i0, hi0, hz0, hz1, hz2⟩ := info_parts info_Node
  have hlen : xs.length ≤ 60 := by rw [← hxs, List.length_map] at hm; exact hm
  obtain ⟨C, hC⟩ : ∃ C, C = madeCells zNdV.cells (M.length * 5) := ⟨_, rfl⟩
  have hCs : C.size = M.length * 5 := by rw [hC]; exact size_madeCells _ _
  have hmk : ∀ w : World, (Instr.makeSlice 53 (.int .i64 0) (.int .i64 (M.length : Int))).run Tryd.prog w = .ok (.slice (some ⟨w.heap.size, 0, none⟩) 0 M.length) (w.alloc (.cells C 45)) := fun w => by
    have hr := run_make (P := Tryd.prog) w 53 45 i0 zNdV Tryd.underlying53 hi0 hz0 .i64 .i64 0 (M.length : Int) (Int.le_refl _) (by omega) (by rw [hz2]; omega) (by omega)
    rw [hz1] at hr
    rw [hC]
    exact hr
  clear hC
  have hl := (callsIn_wide (n := 5)).2 hload
  clear hload
  refine (callsIn_wide (n := 6)).1 ?_
  refine callsIn_of_wp_marks Tryd.func18 rfl trivial ?_ rfl
  simp only [Tryd.ntmps18, List.size_toArray, List.length_cons, List.length_nil, Nat.reduceAdd, Nat.reduceSub, Array.replicate_succ, Array.replicate_zero, List.push_toArray, List.append_toArray, List.nil_append, List.cons_append]
  gi_wp2_with (refine ⟨trivial, ?_⟩; gi_at_call 35; refine hl.mono ?_; rintro e u ⟨bm, ev, rfl, hm1, hb1⟩)
  have hln := (callsIn_wide (n := 5)).2 (mlen_any u w.heap.size bm ev M hm1)
  gi_wp2_with (refine ⟨trivial, ?_⟩; gi_at_call 37; refine hln.mono ?_; rintro e w2 ⟨rfl, e2⟩; have e2 := e2.symm; subst e2)
  gi_wp2_with (refine ⟨trivial, ?_⟩; gi_at_call 38; refine (all_in 5 bm _).mono ?_; rintro e w' ⟨rfl, rfl⟩)
  clear hl hln hmk
  have hus := hb1.size
  obtain ⟨W0, hW0⟩ : ∃ W0, W0 = ((u.alloc (.cells C 45)).alloc (.cells #[.slice (some ⟨u.heap.size, 0, none⟩) 0 M.length] 53)).alloc (.cells #[.pointer (some ⟨bm, 0, none⟩)] 84) := ⟨_, rfl⟩
  have hB0 : Below u.heap.size u W0 := by rw [hW0]; exact (((Below.refl _ u).alloc (Nat.le_refl _) _).alloc (by simp) _).alloc (by simp; omega) _
  have hsz : W0.heap.size = u.heap.size + 3 := by rw [hW0]; simp
  have bO : Boxed W0 (u.heap.size + 1) 53 (.slice (some ⟨u.heap.size, 0, none⟩) 0 M.length) := by
    have := (Boxed.new (u.alloc (.cells C 45)) 53 (.slice (some ⟨u.heap.size, 0, none⟩) 0 M.length)).alloc (.cells #[.pointer (some ⟨bm, 0, none⟩)] 84)
    rw [World.size_alloc, ← hW0] at this
    exact this
  have hrow0 : W0.ownsRow u.heap.size 45 5 (.slice (some ⟨u.heap.size, 0, none⟩) 0 M.length) 0 [] := by
    rw [hW0]
    exact ((World.ownsRow_made u _ M.length (Nat.le_refl _) (by unfold maxLen; omega) hCs).alloc _).alloc _
  have hc0 : W0.cell? ⟨u.heap.size + 1 + 1, 0, none⟩ = some (.pointer (some ⟨bm, 0, none⟩)) := by
    have := Boxed.new ((u.alloc (.cells C 45)).alloc (.cells #[.slice (some ⟨u.heap.size, 0, none⟩) 0 M.length] 53)) 84 (.pointer (some ⟨bm, 0, none⟩))
    rw [World.size_alloc, World.size_alloc, ← hW0] at this
    exact this.cell
  rw [← hW0]
  clear hW0 hCs
  have hml : M.length ≤ 1000 := by omega
  refine wpIn_rangeFunc_ownH rfl (by omega) (gf := 62) (lb := #[.pointer (some ⟨u.heap.size + 1 + 1, 0, none⟩)]) rfl trivial (enters_of Tryd.func62 (by kernel_rfl) rfl)
    (all_stops 5 (by omega) (u.heap.size + 1 + 1) bm w.heap.size u.heap.size ev M xs hxs hml W0 (by omega) (by omega) hc0 (hm1.below hB0) hm1.lt (fun g hg => (hm1.row.lt g hg).2)) belowK_t (belowK_b (by omega)) (Below.refl _ _) (fun _ => rfl)
    (fun pre W => (∃ v, Boxed W (u.heap.size + 1) 53 v ∧ W.ownsRow u.heap.size 45 5 v pre.length (rowN pre) ∧ True) ∧ Below u.heap.size u W)
    (fun _ _ _ => False)
    (OwnFrom.and (Own.from (holdsRow_own u.heap.size (u.heap.size + 1) 53 45 5 (fun pre => pre.length) (fun pre => rowN pre) (fun _ _ => True)) _) (ownFrom_below (Nat.le_refl _) (by omega)))
    (fun _ _ _ _ _ hs _ _ => hs)
    ⟨⟨_, bO, hrow0, trivial⟩, hB0⟩
    (fun x a' W => ∃ Bx, u.heap.size < Bx ∧ W.heap[Bx]? = some (.cells (plC x.1).toArray 88 (0, 0)) ∧ a' = { tmps := #[.pointer (some ⟨bb, 0, none⟩), undef, .slice none 0 0, .int .i64 0, .pointer (some ⟨bm, 0, none⟩), .int .i64 0, .pointer (some ⟨u.heap.size + 1, 0, none⟩), .pointer (some ⟨Bx, 0, none⟩), .tuple #[.pointer (some ⟨bm, 0, none⟩), .int .i64 0], .pointer (some ⟨bb, 0, none⟩), .tuple #[.pointer (some ⟨bm, 0, none⟩), .int .i64 0], .pointer (some ⟨bm, 0, none⟩), .int .i64 0, .int .i64 0, .bool false, undef, .pointer (some ⟨bm, 0, none⟩), .int .i64 (M.length : Int), .slice (some ⟨u.heap.size, 0, none⟩) 0 M.length, .pointer (some ⟨bm, 0, none⟩), .func (.func 62) #[] #[.pointer (some ⟨u.heap.size + 1 + 1, 0, none⟩)], .agg #[.int .i64 (x.1.slot : Int), .string x.1.node.path, .int .i64 x.1.node.kind, .int .i64 x.1.node.mode, .int .i64 x.1.node.tag, .string x.1.node.data], undef, undef, undef, undef, undef, undef], defers := [] })
    (fun x a' _ X Y row hs hg hr => by
      obtain ⟨Bx, h1, h2, h3⟩ := hs
      refine ⟨Bx, h1, (hg.block Bx (lt_of_heap h2) fun e => ?_).trans h2, h3⟩
      obtain ⟨_, o, ho, hcc⟩ := hr Bx e.symm
      rw [h2] at ho
      cases ho
      cases hcc)
    ?assign ?body ?done ?stop
  case assign =>
    rintro l pre x W K ⟨⟨v, hv, hrow, _⟩, hB1⟩ hK
    dsimp only [encP]
    gi_wp2
    exact hK _ _ ((KeepsOthers.alloc _ _).from _) ((Below.refl _ W).alloc hB1.size _) ⟨⟨v, hv.alloc _, hrow.alloc _, trivial⟩, hB1.alloc hB1.size _⟩ ⟨W.heap.size, by have := hv.lt; omega, heap_alloc_new W _, rfl⟩
  case body =>
    rintro l pre x a' W hl ⟨r, hr⟩ ⟨⟨v, hv, hrow, _⟩, hB1⟩ ⟨Bx, hBx, bX, rfl⟩ hlt
    have cX := fun j => cell_of_row W Bx j _ _ _ bX
    have x0 := cX 0
    have x1 := cX 1
    have x2 := cX 2
    have x3 := cX 3
    have x4 := cX 4
    have x5 := cX 5
    simp [plC] at x0 x1 x2 x3 x4 x5
    clear cX
    have hcv := hv.cell
    have hsW := hB1.size
    have k1 : ∀ u ∈ ndC x.1.node, u.oneCell' = true := by simp [ndC, Value.oneCell']
    have k2 : pre.length + 1 ≤ maxLen := by unfold maxLen; omega
    have k3 : (pre.length + 1) * 56 ≤ 140737488355328 := by omega
    have k4 : ∀ o, u.heap.size ≤ (W.alloc o).heap.size := fun o => by rw [World.size_alloc]; omega
    have k5 : ∀ j y, (ndC x.1.node)[j]? = some y → (W.alloc (.cells #[.string x.1.node.path, .int .i64 x.1.node.kind, .int .i64 x.1.node.mode, .int .i64 x.1.node.tag, .string x.1.node.data] 45)).cell? ((⟨W.heap.size, 0, none⟩ : Addr).add j) = some y := fun j y hj =>
      cells_at (L := ndC x.1.node) (t := 45) (heap_alloc_new W (.cells (ndC x.1.node).toArray 45)) 0 j y (by simpa using hj)
    gi_wp2_with (gi_at_builtin; refine wpListIn_append_own _ rfl _ _ 53 rfl u.heap.size 45 i0 zNdV 5 56 Tryd.underlying53 hi0 hz0 hz1 hz2 rfl (by decide) _ _ _ rfl (hrow.alloc _) ⟨W.heap.size, 0, none⟩ 1 1 (ndC x.1.node) rfl rfl k5 k1 k2 k3 (k4 _) ?_; intro v' w1 hown' hgrow _; obtain ⟨g', cap', rfl⟩ := ownsRow_succ hown'; obtain ⟨hv1, hv2, hr2, hk2, hb2⟩ := hv.appended (by decide) hrow hB1.size (by omega) hown' hgrow; have hc1 := hv1.cell; have hf1 := hv1.frozen)
    refine ⟨hk2.from _, hb2, ⟨_, hv2, ?_, trivial⟩, hB1.trans hb2⟩
    rw [rowN_snoc, List.length_append]
    exact hr2
  case done =>
    rintro D zs W hD hzs ⟨⟨v, hv, hrow, _⟩, hB1⟩ hK
    rw [hzs] at hrow
    have hcv := hv.cell
    gi_wp2
    refine ⟨by simp, .inl ⟨_, _, rfl, run_takeDeferred hK, ?_⟩⟩
    refine ⟨.tuple #[v, .int .i64 0], by simp [results, Tryd.f18, go_sem], v, xs, rfl, hxs, ownsRow_putObj (ownsRow_base hrow hus) _ hK rfl, hb1.trans ((hB1.trans (belowK_b (w := u) (Nat.le_refl _) W D _ _ (by omega) hK rfl rfl)).mono hus)⟩
  case stop =>
    rintro D c pre W _ _ hf _
    exact hf.elim
end Go.Proofs.YtcbindgpbeaebaaDoor
