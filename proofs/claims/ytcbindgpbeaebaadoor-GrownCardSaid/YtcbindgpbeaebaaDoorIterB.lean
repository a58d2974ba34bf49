import Derived.Test.YtcbindgpbeaebaaDoorIterA
namespace Go.Proofs.YtcbindgpbeaebaaDoor
open Go.RowKit Go.Deep Go.Shelf
attribute [local go_sem] Oper.semAt_some

/-- Which slots are used, as an array of sixty has them. -/
def usedL (pre : List Ps) : List Value := (List.range 60).map fun s => .bool (pre.any fun x => x.1.slot == s)
theorem usedL_len (pre : List Ps) : (usedL pre).length = 60 := by simp [usedL]
theorem usedL_at (pre : List Ps) (s : Nat) (h : s < 60) : (usedL pre)[s]? = some (.bool (pre.any fun x => x.1.slot == s)) := by simp [usedL, h]
theorem usedL_set (pre : List Ps) (x : Ps) : usedL (pre ++ [x]) = (usedL pre).set x.1.slot (.bool true) := by
  apply List.ext_getElem?
  intro s
  rw [List.getElem?_set]
  by_cases hs : s < 60
  · rw [usedL_at _ _ hs]
    by_cases e : x.1.slot = s
    · rw [if_pos e, if_pos (by rw [usedL_len]; omega)]
      simp [e]
    · rw [if_neg e, usedL_at _ _ hs]
      simp [e]
  · rw [List.getElem?_eq_none (by rw [usedL_len]; omega)]
    by_cases e : x.1.slot = s
    · have := x.2; omega
    · rw [if_neg e, List.getElem?_eq_none (by rw [usedL_len]; omega)]
theorem usedL_nil : (#[.bool false, .bool false, .bool false, .bool false, .bool false, .bool false, .bool false, .bool false, .bool false, .bool false, .bool false, .bool false, .bool false, .bool false, .bool false, .bool false, .bool false, .bool false, .bool false, .bool false, .bool false, .bool false, .bool false, .bool false, .bool false, .bool false, .bool false, .bool false, .bool false, .bool false, .bool false, .bool false, .bool false, .bool false, .bool false, .bool false, .bool false, .bool false, .bool false, .bool false, .bool false, .bool false, .bool false, .bool false, .bool false, .bool false, .bool false, .bool false, .bool false, .bool false, .bool false, .bool false, .bool false, .bool false, .bool false, .bool false, .bool false, .bool false, .bool false, .bool false] : Array Value) = (usedL []).toArray := by kernel_rfl
theorem pigeons : ∀ (n : Nat) (L : List Nat), (∀ i, i < n → i ∈ L) → n ≤ L.length
  | 0, _, _ => Nat.zero_le _
  | n + 1, L, h => by
    have hn := h n (by omega)
    have ih := pigeons n (L.erase n) fun i hi => (List.mem_erase_of_ne (by omega)).2 (h i (by omega))
    rw [List.length_erase_of_mem hn] at ih
    have := List.length_pos_of_mem hn
    omega
theorem used_own (w0 : World) (b : Nat) : OwnFrom w0.heap.size (fun (pre : List Ps) W => W.heap[b]? = some (.cells (usedL pre).toArray 177 (0, 0))) := fun s A C row hs hg hr => by
  refine (hg.block b (lt_of_heap hs) fun e => ?_).trans hs
  obtain ⟨_, o, ho, hc⟩ := hr b e.symm
  rw [hs] at ho
  cases ho
  cases hc

set_option maxRecDepth 100000 in
set_option maxHeartbeats 6400000 in
theorem freeSlot_any (w : World) (B bm : Nat) (ev : Value) (M : List Pl) (h : MAt w B bm ev M) (hs : ∀ p ∈ M, p.slot < 60) (hm : M.length < 60) :
    Calls Tryd.prog 103 #[.pointer (some ⟨bm, 0, none⟩)] w fun e w' => ∃ s : Nat, e = .returned (.int .i64 (s : Int)) ∧ s < 60 ∧ (∀ p ∈ M, p.slot ≠ s) ∧ Below w.heap.size w w' := by
  obtain ⟨xs, hxs⟩ : ∃ xs : List Ps, xs.map (·.1) = M := ⟨M.attach.map fun p => ⟨p.1, hs p.1 p.2⟩, by simp⟩
  refine (callsIn_wide (n := 6)).1 ?_
  refine callsIn_of_wp_marks Tryd.func103 rfl trivial ?_ rfl
  simp only [Tryd.ntmps103, List.size_toArray, List.length_cons, List.length_nil, Nat.reduceAdd, Nat.reduceSub, Array.replicate_succ, Array.replicate_zero, List.push_toArray, List.append_toArray, List.nil_append, List.cons_append]
  gi_wp2_with (refine ⟨trivial, ?_⟩; gi_at_call 38; refine (all_in 5 bm _).mono ?_; rintro e w' ⟨rfl, rfl⟩)
  rw [usedL_nil]
  obtain ⟨W0, hW0⟩ : ∃ W0, W0 = (w.alloc (.cells (usedL []).toArray 177)).alloc (.cells #[.pointer (some ⟨bm, 0, none⟩)] 84) := ⟨_, rfl⟩
  have hB0 : Below w.heap.size w W0 := by rw [hW0]; exact ((Below.refl _ w).alloc (Nat.le_refl _) _).alloc (by simp) _
  have hsz : W0.heap.size = w.heap.size + 2 := by rw [hW0]; simp
  have bU : W0.heap[w.heap.size]? = some (.cells (usedL []).toArray 177 (0, 0)) := by
    rw [hW0, Below.heap_alloc _ _ _ (by simp)]; exact heap_alloc_new w _
  have bA : W0.cell? ⟨w.heap.size + 1, 0, none⟩ = some (.pointer (some ⟨bm, 0, none⟩)) := by
    have := Boxed.new (w.alloc (.cells (usedL []).toArray 177)) 84 (.pointer (some ⟨bm, 0, none⟩))
    rw [World.size_alloc, ← hW0] at this
    exact this.cell
  rw [← hW0]
  clear hW0
  have hml : M.length ≤ 1000 := by omega
  refine wpIn_rangeFunc_ownH rfl (by omega) (gf := 62) (lb := #[.pointer (some ⟨w.heap.size + 1, 0, none⟩)]) rfl trivial (enters_of Tryd.func62 (by kernel_rfl) rfl)
    (all_stops 5 (by omega) (w.heap.size + 1) bm B w.heap.size ev M xs hxs hml W0 (by omega) (by omega) bA (h.below hB0) h.lt (fun g hg => (h.row.lt g hg).2)) belowK_t (belowK_b (by omega)) (Below.refl _ _) (fun _ => rfl)
    (fun pre W => W.heap[w.heap.size]? = some (.cells (usedL pre).toArray 177 (0, 0)) ∧ Below w.heap.size w W)
    (fun _ _ _ => False)
    (OwnFrom.and (used_own W0 w.heap.size) (ownFrom_below (Nat.le_refl _) (by omega)))
    (fun _ _ _ _ _ hs _ _ => hs)
    ⟨bU, hB0⟩
    (fun x a' W => ∃ Bx, w.heap.size < Bx ∧ W.cell? ⟨Bx, 0, none⟩ = some (.int .i64 (x.1.slot : Int)) ∧ a' = { tmps := #[.pointer (some ⟨bm, 0, none⟩), undef, .int .i64 0, .pointer (some ⟨w.heap.size, 0, none⟩), .pointer (some ⟨Bx, 0, none⟩), undef, .pointer (some ⟨bm, 0, none⟩), .func (.func 62) #[] #[.pointer (some ⟨w.heap.size + 1, 0, none⟩)], .agg #[.int .i64 (x.1.slot : Int), .string x.1.node.path, .int .i64 x.1.node.kind, .int .i64 x.1.node.mode, .int .i64 x.1.node.tag, .string x.1.node.data], undef, undef, undef, undef, undef, undef, undef, undef, undef], defers := [] })
    (fun x a' _ X Y row hs hg hr => by obtain ⟨Bx, h1, h2, h3⟩ := hs; exact ⟨Bx, h1, cell_kept h2 hg (fun r e => (hr r e).2), h3⟩)
    ?assign ?body ?done ?stop
  case assign =>
    rintro l pre x W K ⟨hU, hB1⟩ hK
    dsimp only [encP]
    gi_wp2
    refine hK _ _ ((KeepsOthers.alloc _ _).from _) ((Below.refl _ W).alloc hB1.size _) ⟨(Below.heap_alloc W _ _ (lt_of_heap hU)).trans hU, hB1.alloc hB1.size _⟩ ⟨W.heap.size, lt_of_heap hU, ?_, rfl⟩
    rw [cell_of_row _ _ _ _ _ _ (heap_alloc_new W _)]
    rfl
  case body =>
    rintro l pre x a' W hl ⟨r, hr⟩ ⟨hU, hB1⟩ ⟨Bx, hBx, cX, rfl⟩ hlt
    have hx60 := x.2
    have i0 : (0 : Int) ≤ (x.1.slot : Int) := Int.natCast_nonneg _
    have i1 : (x.1.slot : Int) < 60 := by omega
    have cU : W.cell? ⟨w.heap.size, x.1.slot, none⟩ = some (.bool (pre.any fun y => y.1.slot == x.1.slot)) := by
      rw [cell_of_row W _ _ _ _ _ hU, List.getElem?_toArray, usedL_at _ _ hx60]
    have fU : W.frozen? ⟨w.heap.size, x.1.slot, none⟩ = false := frozen_of_row W _ _ _ _ hU
    gi_wp2
    refine ⟨(KeepsOthers.setCell _ _ _).from _, (Below.refl _ W).setCell (p := ⟨w.heap.size, x.1.slot, none⟩) (Nat.le_refl _) _, ?_, hB1.setCell (p := ⟨w.heap.size, x.1.slot, none⟩) (Nat.le_refl _) _⟩
    rw [heap_setCell_same W _ _ _ _ _ hU, usedL_set]
    simp
  case done =>
    rintro D zs W hD hzs ⟨hU, hB1⟩ hK
    rw [hzs] at hU
    clear hzs
    gi_wp2
    gi_loopw [5] (fun i wr => wr = W ∧ ∃ k : Nat, i = .int .i64 k ∧ k < 60 ∧ ∀ s, s < k → ∃ p ∈ M, p.slot = s) (fun i _ => 60 - (intOf i).toNat)
    case atStart => exact ⟨rfl, 0, rfl, by omega, fun s hs => by omega⟩
    case round =>
      obtain ⟨rfl, k, rfl, hk, hall⟩ := hrel
      have i0 : (0 : Int) ≤ (k : Int) := Int.natCast_nonneg _
      have i1 : (k : Int) < 60 := by omega
      have cU := cell_of_row wr w.heap.size k _ _ _ hU
      rw [List.getElem?_toArray, usedL_at _ _ hk] at cU
      cases hany : xs.any fun x => x.1.slot == k
      · rw [hany] at cU
        gi_wp2
        refine ⟨by simp, .inl ⟨_, _, rfl, run_takeDeferred hK, ?_⟩⟩
        refine ⟨_, results_tmp rfl _ _ _, k, rfl, hk, ?_, hB1.trans (belowK_b (w := w) (Nat.le_refl _) wr D _ _ (by omega) hK rfl rfl)⟩
        intro p hp e
        rw [← hxs, List.mem_map] at hp
        obtain ⟨x, hx, rfl⟩ := hp
        rw [List.any_eq_false] at hany
        exact hany x hx (by simp [e])
      · rw [hany] at cU
        have hk' : ∀ s, s < k + 1 → ∃ p ∈ M, p.slot = s := fun s hs => by
          rcases Nat.lt_or_eq_of_le (Nat.le_of_lt_succ hs) with h | rfl
          · exact hall s h
          · rw [List.any_eq_true] at hany
            obtain ⟨x, hx, e⟩ := hany
            exact ⟨x.1, by rw [← hxs]; exact List.mem_map_of_mem hx, by simpa using e⟩
        have hk1 : k + 1 < 60 := by
          have := pigeons (k + 1) (M.map (·.slot)) fun s hs => by
            obtain ⟨p, hp, e⟩ := hk' s hs
            rw [← e]
            exact List.mem_map_of_mem hp
          rw [List.length_map] at this
          omega
        have HK := hide hk'
        clear hk' hall hany
        gi_wp2
        go_roundw
        case rel => exact ⟨by trivial, k + 1, by go_num, hk1, unhide HK⟩
        case measure => simp [intOf]; omega
  case stop =>
    rintro D c pre W _ _ hf _
    exact hf.elim
end Go.Proofs.YtcbindgpbeaebaaDoor
