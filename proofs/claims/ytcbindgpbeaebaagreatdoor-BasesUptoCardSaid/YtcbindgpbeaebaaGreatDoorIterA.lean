import Derived.Test.YtcbindgpbeaebaaGreatDoorRowK
import Derived.RangeFuncNested
import Derived.RangeFuncBound
import Derived.RangeFuncCalls
import Derived.RangeFuncLeaves
import Derived.Shelf.Abstract
import Derived.Shelf.RegionOpen
import Derived.OwnWalkIn
import Derived.TacticsInMore
import Derived.LoopNIn
import Derived.LoopIn
import Derived.Maps.AppendAt
import Derived.Test.YtcbindgpbeaebaaGreatDoorPureA
namespace Go.Proofs.YtcbindgpbeaebaaGreatDoor
open Go.RowKit Go.Deep Go.Shelf
attribute [local go_sem] Oper.semAt_some

/-- What a map's round is handed: a node in one of the sixty slots. -/
abbrev Ps := { p : Pl // p.slot < 60 }
def encP (x : Ps) : Array Value := #[.agg #[.int .i64 (x.1.slot : Int), .string x.1.node.path, .int .i64 x.1.node.kind, .int .i64 x.1.node.mode, .int .i64 x.1.node.tag, .string x.1.node.data]]

set_option maxRecDepth 100000 in
set_option maxHeartbeats 3200000 in
theorem all1_in (n : Nat) (hn : 1 ≤ n) (l Bn bm B n₀ : Nat) (ev : Value) (M : List Pl) (xs : List Ps) (hxs : xs.map (·.1) = M) (hm : M.length ≤ 1000) (J Jx : List Ps → World → Prop)
    (hY : ∀ pre x W, J pre W → pre.length < xs.length → YieldAt Fence.wide (n - 1) Tryz.prog l (encP x) W fun e W' =>
      (e = .returned (.bool true) ∧ J (pre ++ [x]) W' ∧ Below n₀ W W') ∨ (e = .returned (.bool false) ∧ Jx (pre ++ [x]) W'))
    (W : World) (hJ : AbidesFrom W.heap.size J) (hBn : W.cell? ⟨Bn, 0, none⟩ = some (.pointer (some ⟨bm, 0, none⟩))) (hM : MAt W B bm ev M) (hbm : bm < n₀) (hev : ∀ g, ev.ownBlock = some g → g < n₀) (hn0 : n₀ ≤ W.heap.size) (h0 : J [] W) :
    CallsIn Fence.wide n Tryz.prog 122 #[.func (.yield l) #[] #[], .pointer (some ⟨Bn, 0, none⟩)] W fun e W' => (∃ v, e = .returned v) ∧
      ((∃ ys, ys = xs ∧ J ys W') ∨ (∃ pre, pre <+: xs ∧ Jx pre W')) := by
  have mc := hM.cell
  obtain ⟨ao, cap, rfl⟩ := row_form hM.row
  have hlen : xs.length = M.length := by rw [← hxs, List.length_map]
  refine callsIn_of_wp Tryz.func122 rfl trivial ?_ rfl
  simp only [Tryz.ntmps122, List.size_toArray, List.length_cons, List.length_nil, Nat.reduceAdd, Nat.reduceSub, Array.replicate_succ, Array.replicate_zero, List.push_toArray, List.append_toArray, List.nil_append, List.cons_append]
  gi_wp2
  gi_loopw [10] (fun i wr => ∃ k : Nat, i = .int .i64 k ∧ k ≤ M.length ∧ MAt wr B bm (.slice ao M.length cap) M ∧ J (xs.take k) wr ∧ n₀ ≤ wr.heap.size) (fun i _ => M.length - (intOf i).toNat)
  case atStart => exact ⟨0, rfl, Nat.zero_le _, hM, by simpa using h0, hn0⟩
  case round =>
    obtain ⟨k, rfl, hk, hr, hJs, hnr⟩ := hrel
    by_cases hlt : k < M.length
    · obtain ⟨x, hx⟩ : ∃ x, xs[k]? = some x := ⟨_, List.getElem?_eq_getElem (by omega)⟩
      have hp : M[k]? = some x.1 := by rw [← hxs, List.getElem?_map, hx]; rfl
      obtain ⟨g, cap', hv, ⟨c0, c1, c2, c3, c4, c5, c6⟩, hg⟩ := row7_at hr.row k x.1 hp
      simp only [Value.slice.injEq, true_and] at hv
      obtain ⟨rfl, rfl⟩ := hv
      have i0 : (0 : Int) ≤ (k : Int) := Int.natCast_nonneg _
      have i1 : (k : Int) < (M.length : Int) := by omega
      have hrA := hr.below ((Below.refl _ wr).alloc (Nat.le_refl _) (.cells #[.string x.1.node.path, .int .i64 (x.1.slot : Int), .string x.1.node.path, .int .i64 x.1.node.kind, .int .i64 x.1.node.mode, .int .i64 x.1.node.tag, .string x.1.node.data] 191))
      obtain ⟨fn, tmps, assign, body, hy, hR⟩ := hY (xs.take k) x (wr.alloc (.cells #[.string x.1.node.path, .int .i64 (x.1.slot : Int), .string x.1.node.path, .int .i64 x.1.node.kind, .int .i64 x.1.node.mode, .int .i64 x.1.node.tag, .string x.1.node.data] 191)) (hJ _ wr _ none hJs (World.grownBy_alloc wr _ none) (fun r e => by cases e)) (by rw [List.length_take]; omega)
      dsimp only [encP] at hy
      have hx' := hide hx
      clear hx
      gi_wp2
      refine hR.mono ?_
      rintro e W3 (⟨rfl, hJ3, hk3⟩ | ⟨rfl, hJx3⟩)
      · gi_wp2
        go_roundw
        case rel =>
          refine ⟨k + 1, by go_num, by omega, ?_, ?_, Nat.le_trans hnr (Nat.le_trans (by simp) hk3.size)⟩
          · refine hrA.kept fun q _ hq => hk3.block q ?_
            rcases hq with rfl | hq
            · exact hbm
            · exact hev q hq
          · rw [List.take_add_one, unhide hx']
            exact hJ3
        case measure => simp [intOf]; omega
      · gi_wp2
        refine bodyPost_ret (results_none rfl _ _ _) rfl ?_
        refine ⟨⟨_, rfl⟩, .inr ⟨xs.take k ++ [x], ?_, hJx3⟩⟩
        have e : xs.take (k + 1) = xs.take k ++ [x] := by rw [List.take_add_one, unhide hx']; rfl
        rw [← e]
        exact List.take_prefix _ _
    · gi_wp2
      go_end0
      refine ⟨⟨_, rfl⟩, .inl ⟨xs, rfl, ?_⟩⟩
      rw [List.take_of_length_le (by omega)] at hJs
      exact hJs

theorem all_in (n : Nat) (bm : Nat) (w : World) :
    CallsIn Fence.wide n Tryz.prog 83 #[.pointer (some ⟨bm, 0, none⟩)] w fun e w' => e = .returned (.func (.func 122) #[] #[.pointer (some ⟨w.heap.size, 0, none⟩)]) ∧ w' = w.alloc (.cells #[.pointer (some ⟨bm, 0, none⟩)] 144) := by
  refine callsIn_of_wp Tryz.func83 rfl trivial ?_ rfl
  simp only [Tryz.ntmps83, List.size_toArray, List.length_cons, List.length_nil, Nat.reduceAdd, Nat.reduceSub, Array.replicate_succ, Array.replicate_zero, List.push_toArray, List.append_toArray, List.nil_append, List.cons_append]
  gi_wp2
  go_ret
  exact ⟨rfl, rfl⟩

theorem all_stops (n : Nat) (hn : 1 ≤ n) (Bn bm B n₀ : Nat) (ev : Value) (M : List Pl) (xs : List Ps) (hxs : xs.map (·.1) = M) (hm : M.length ≤ 1000) (w : World) (hBn : Bn < w.heap.size) (hn₀ : n₀ ≤ w.heap.size)
    (hc : w.cell? ⟨Bn, 0, none⟩ = some (.pointer (some ⟨bm, 0, none⟩))) (hM : MAt w B bm ev M) (hbm : bm < n₀) (hev : ∀ g, ev.ownBlock = some g → g < n₀) :
    SeqStopsK Fence.wide n Tryz.prog 122 #[.pointer (some ⟨Bn, 0, none⟩)] encP (Below n₀) (fun ys => ys = xs) (fun pre => pre <+: xs) xs.length w := fun l J Jx W hW hJ _ hY h0 =>
  all1_in n hn l Bn bm B n₀ ev M xs hxs hm J Jx hY W hJ ((hW.cell (p := ⟨Bn, 0, none⟩) hBn).trans hc) (hM.kept fun k hk _ => hW.block k hk) hbm hev (Nat.le_trans hn₀ hW.size) h0
end Go.Proofs.YtcbindgpbeaebaaGreatDoor

namespace Go.Proofs.YtcbindgpbeaebaaGreatDoor
open Go.RowKit Go.Deep Go.Shelf
attribute [local go_sem] Oper.semAt_some

/-- Which slots are used, as an array of sixty has them. -/
def usedL (pre : List Ps) : List Value := (List.range 60).map fun s => .bool (pre.any fun x => x.1.slot == s)
theorem usedL_len (pre : List Ps) : (usedL pre).length = 60 := by simp [usedL]
theorem usedL_at (pre : List Ps) (s : Nat) (h : s < 60) : (usedL pre)[s]? = some (.bool (pre.any fun x => x.1.slot == s)) := by simp [usedL, h]
theorem usedL_set (pre : List Ps) (x : Ps) : usedL (pre ++ [x]) = (usedL pre).set x.1.slot (.bool true) := by
  apply List.ext_getElem?
  intro s
  rw [List.getElem?_set]
  by_cases hs : s < 60
  · rw [usedL_at _ _ hs]
    by_cases e : x.1.slot = s
    · rw [if_pos e, if_pos (by rw [usedL_len]; omega)]
      simp [e]
    · rw [if_neg e, usedL_at _ _ hs]
      simp [e]
  · rw [List.getElem?_eq_none (by rw [usedL_len]; omega)]
    by_cases e : x.1.slot = s
    · have := x.2; omega
    · rw [if_neg e, List.getElem?_eq_none (by rw [usedL_len]; omega)]
theorem usedL_nil : (#[.bool false, .bool false, .bool false, .bool false, .bool false, .bool false, .bool false, .bool false, .bool false, .bool false, .bool false, .bool false, .bool false, .bool false, .bool false, .bool false, .bool false, .bool false, .bool false, .bool false, .bool false, .bool false, .bool false, .bool false, .bool false, .bool false, .bool false, .bool false, .bool false, .bool false, .bool false, .bool false, .bool false, .bool false, .bool false, .bool false, .bool false, .bool false, .bool false, .bool false, .bool false, .bool false, .bool false, .bool false, .bool false, .bool false, .bool false, .bool false, .bool false, .bool false, .bool false, .bool false, .bool false, .bool false, .bool false, .bool false, .bool false, .bool false, .bool false, .bool false] : Array Value) = (usedL []).toArray := by kernel_rfl
theorem pigeons : ∀ (n : Nat) (L : List Nat), (∀ i, i < n → i ∈ L) → n ≤ L.length
  | 0, _, _ => Nat.zero_le _
  | n + 1, L, h => by
    have hn := h n (by omega)
    have ih := pigeons n (L.erase n) fun i hi => (List.mem_erase_of_ne (by omega)).2 (h i (by omega))
    rw [List.length_erase_of_mem hn] at ih
    have := List.length_pos_of_mem hn
    omega
theorem used_own (w0 : World) (b : Nat) : OwnFrom w0.heap.size (fun (pre : List Ps) W => W.heap[b]? = some (.cells (usedL pre).toArray 264 (0, 0))) := fun s A C row hs hg hr => by
  refine (hg.block b (lt_of_heap hs) fun e => ?_).trans hs
  obtain ⟨_, o, ho, hc⟩ := hr b e.symm
  rw [hs] at ho
  cases ho
  cases hc

set_option maxRecDepth 100000 in
set_option maxHeartbeats 6400000 in
theorem freeSlot_any (w : World) (B bm : Nat) (ev : Value) (M : List Pl) (h : MAt w B bm ev M) (hs : ∀ p ∈ M, p.slot < 60) (hm : M.length < 60) :
    Calls Tryz.prog 191 #[.pointer (some ⟨bm, 0, none⟩)] w fun e w' => ∃ s : Nat, e = .returned (.int .i64 (s : Int)) ∧ s < 60 ∧ (∀ p ∈ M, p.slot ≠ s) ∧ Below w.heap.size w w' := by
  obtain ⟨xs, hxs⟩ : ∃ xs : List Ps, xs.map (·.1) = M := ⟨M.attach.map fun p => ⟨p.1, hs p.1 p.2⟩, by simp⟩
  refine (callsIn_wide (n := 6)).1 ?_
  refine callsIn_of_wp_marks Tryz.func191 rfl trivial ?_ rfl
  simp only [Tryz.ntmps191, List.size_toArray, List.length_cons, List.length_nil, Nat.reduceAdd, Nat.reduceSub, Array.replicate_succ, Array.replicate_zero, List.push_toArray, List.append_toArray, List.nil_append, List.cons_append]
  gi_wp2_with (refine ⟨trivial, ?_⟩; gi_at_call 83; refine (all_in 5 bm _).mono ?_; rintro e w' ⟨rfl, rfl⟩)
  rw [usedL_nil]
  obtain ⟨W0, hW0⟩ : ∃ W0, W0 = (w.alloc (.cells (usedL []).toArray 264)).alloc (.cells #[.pointer (some ⟨bm, 0, none⟩)] 144) := ⟨_, rfl⟩
  have hB0 : Below w.heap.size w W0 := by rw [hW0]; exact ((Below.refl _ w).alloc (Nat.le_refl _) _).alloc (by simp) _
  have hsz : W0.heap.size = w.heap.size + 2 := by rw [hW0]; simp
  have bU : W0.heap[w.heap.size]? = some (.cells (usedL []).toArray 264 (0, 0)) := by
    rw [hW0, Below.heap_alloc _ _ _ (by simp)]; exact heap_alloc_new w _
  have bA : W0.cell? ⟨w.heap.size + 1, 0, none⟩ = some (.pointer (some ⟨bm, 0, none⟩)) := by
    have := Boxed.new (w.alloc (.cells (usedL []).toArray 264)) 144 (.pointer (some ⟨bm, 0, none⟩))
    rw [World.size_alloc, ← hW0] at this
    exact this.cell
  rw [← hW0]
  clear hW0
  have hml : M.length ≤ 1000 := by omega
  refine wpIn_rangeFunc_ownH rfl (by omega) (gf := 122) (lb := #[.pointer (some ⟨w.heap.size + 1, 0, none⟩)]) rfl trivial (enters_of Tryz.func122 (by kernel_rfl) rfl)
    (all_stops 5 (by omega) (w.heap.size + 1) bm B w.heap.size ev M xs hxs hml W0 (by omega) (by omega) bA (h.below hB0) h.lt (fun g hg => (h.row.lt g hg).2)) belowK_t (belowK_b (by omega)) (Below.refl _ _) (fun _ => rfl)
    (fun pre W => W.heap[w.heap.size]? = some (.cells (usedL pre).toArray 264 (0, 0)) ∧ Below w.heap.size w W)
    (fun _ _ _ => False)
    (OwnFrom.and (used_own W0 w.heap.size) (ownFrom_below (Nat.le_refl _) (by omega)))
    (fun _ _ _ _ _ hs _ _ => hs)
    ⟨bU, hB0⟩
    (fun x a' W => ∃ Bx, w.heap.size < Bx ∧ W.cell? ⟨Bx, 0, none⟩ = some (.int .i64 (x.1.slot : Int)) ∧ a' = { tmps := #[.pointer (some ⟨bm, 0, none⟩), undef, .int .i64 0, .pointer (some ⟨w.heap.size, 0, none⟩), .pointer (some ⟨Bx, 0, none⟩), undef, .pointer (some ⟨bm, 0, none⟩), .func (.func 122) #[] #[.pointer (some ⟨w.heap.size + 1, 0, none⟩)], .agg #[.int .i64 (x.1.slot : Int), .string x.1.node.path, .int .i64 x.1.node.kind, .int .i64 x.1.node.mode, .int .i64 x.1.node.tag, .string x.1.node.data], undef, undef, undef, undef, undef, undef, undef, undef, undef], defers := [] })
    (fun x a' _ X Y row hs hg hr => by obtain ⟨Bx, h1, h2, h3⟩ := hs; exact ⟨Bx, h1, cell_kept h2 hg (fun r e => (hr r e).2), h3⟩)
    ?assign ?body ?done ?stop
  case assign =>
    rintro l pre x W K ⟨hU, hB1⟩ hK
    dsimp only [encP]
    gi_wp2
    refine hK _ _ ((KeepsOthers.alloc _ _).from _) ((Below.refl _ W).alloc hB1.size _) ⟨(Below.heap_alloc W _ _ (lt_of_heap hU)).trans hU, hB1.alloc hB1.size _⟩ ⟨W.heap.size, lt_of_heap hU, ?_, rfl⟩
    rw [cell_of_row _ _ _ _ _ _ (heap_alloc_new W _)]
    rfl
  case body =>
    rintro l pre x a' W hl ⟨r, hr⟩ ⟨hU, hB1⟩ ⟨Bx, hBx, cX, rfl⟩ hlt
    have hx60 := x.2
    have i0 : (0 : Int) ≤ (x.1.slot : Int) := Int.natCast_nonneg _
    have i1 : (x.1.slot : Int) < 60 := by omega
    have cU : W.cell? ⟨w.heap.size, x.1.slot, none⟩ = some (.bool (pre.any fun y => y.1.slot == x.1.slot)) := by
      rw [cell_of_row W _ _ _ _ _ hU, List.getElem?_toArray, usedL_at _ _ hx60]
    have fU : W.frozen? ⟨w.heap.size, x.1.slot, none⟩ = false := frozen_of_row W _ _ _ _ hU
    gi_wp2
    refine ⟨(KeepsOthers.setCell _ _ _).from _, (Below.refl _ W).setCell (p := ⟨w.heap.size, x.1.slot, none⟩) (Nat.le_refl _) _, ?_, hB1.setCell (p := ⟨w.heap.size, x.1.slot, none⟩) (Nat.le_refl _) _⟩
    rw [heap_setCell_same W _ _ _ _ _ hU, usedL_set]
    simp
  case done =>
    rintro D zs W hD hzs ⟨hU, hB1⟩ hK
    rw [hzs] at hU
    clear hzs
    gi_wp2
    gi_loopw [5] (fun i wr => wr = W ∧ ∃ k : Nat, i = .int .i64 k ∧ k < 60 ∧ ∀ s, s < k → ∃ p ∈ M, p.slot = s) (fun i _ => 60 - (intOf i).toNat)
    case atStart => exact ⟨rfl, 0, rfl, by omega, fun s hs => by omega⟩
    case round =>
      obtain ⟨rfl, k, rfl, hk, hall⟩ := hrel
      have i0 : (0 : Int) ≤ (k : Int) := Int.natCast_nonneg _
      have i1 : (k : Int) < 60 := by omega
      have cU := cell_of_row wr w.heap.size k _ _ _ hU
      rw [List.getElem?_toArray, usedL_at _ _ hk] at cU
      cases hany : xs.any fun x => x.1.slot == k
      · rw [hany] at cU
        gi_wp2
        refine ⟨by simp, .inl ⟨_, _, rfl, run_takeDeferred hK, ?_⟩⟩
        refine ⟨_, results_tmp rfl _ _ _, k, rfl, hk, ?_, hB1.trans (belowK_b (w := w) (Nat.le_refl _) wr D _ _ (by omega) hK rfl rfl)⟩
        intro p hp e
        rw [← hxs, List.mem_map] at hp
        obtain ⟨x, hx, rfl⟩ := hp
        rw [List.any_eq_false] at hany
        exact hany x hx (by simp [e])
      · rw [hany] at cU
        have hk' : ∀ s, s < k + 1 → ∃ p ∈ M, p.slot = s := fun s hs => by
          rcases Nat.lt_or_eq_of_le (Nat.le_of_lt_succ hs) with h | rfl
          · exact hall s h
          · rw [List.any_eq_true] at hany
            obtain ⟨x, hx, e⟩ := hany
            exact ⟨x.1, by rw [← hxs]; exact List.mem_map_of_mem hx, by simpa using e⟩
        have hk1 : k + 1 < 60 := by
          have := pigeons (k + 1) (M.map (·.slot)) fun s hs => by
            obtain ⟨p, hp, e⟩ := hk' s hs
            rw [← e]
            exact List.mem_map_of_mem hp
          rw [List.length_map] at this
          omega
        have HK := hide hk'
        clear hk' hall hany
        gi_wp2
        go_roundw
        case rel => exact ⟨by trivial, k + 1, by go_num, hk1, unhide HK⟩
        case measure => simp [intOf]; omega
  case stop =>
    rintro D c pre W _ _ hf _
    exact hf.elim
end Go.Proofs.YtcbindgpbeaebaaGreatDoor

namespace Go.Proofs.YtcbindgpbeaebaaGreatDoor
open Go.RowKit Go.Deep Go.Shelf
attribute [local go_sem] Oper.semAt_some

theorem info_placed : (Tryz.prog.info? 148).map (fun i => (i.zero, i.size, i.bytes)) = some (some zPl, 6, 64) := by kernel_rfl
def rowP (xs : List Ps) : List Value := xs.flatMap fun x => plC x.1
theorem rowP_snoc (pre : List Ps) (x : Ps) : rowP (pre ++ [x]) = rowP pre ++ plC x.1 := by simp [rowP]

set_option maxRecDepth 100000 in
set_option maxHeartbeats 6400000 in
theorem appendSeq_in (w : World) (Bn B bm : Nat) (ev : Value) (M : List Pl) (xs : List Ps) (hxs : xs.map (·.1) = M) (hc : w.cell? ⟨Bn, 0, none⟩ = some (.pointer (some ⟨bm, 0, none⟩))) (h : MAt w B bm ev M) (hm : M.length ≤ 1000) :
    CallsIn Fence.wide 6 Tryz.prog 211 #[.slice none 0 0, .func (.func 122) #[] #[.pointer (some ⟨Bn, 0, none⟩)]] w fun e W' => ∃ v, e = .returned v ∧ W'.ownsRow w.heap.size 148 6 v xs.length (rowP xs) ∧ Below w.heap.size w W' := by
  obtain ⟨i0, hi0, hz0, hz1, hz2⟩ := info_parts info_placed
  have hlen : xs.length ≤ 1000 := by rw [← hxs, List.length_map] at hm; exact hm
  refine callsIn_of_wp_marks Tryz.func211 rfl trivial ?_ rfl
  simp only [Tryz.ntmps211, List.size_toArray, List.length_cons, List.length_nil, Nat.reduceAdd, Nat.reduceSub, Array.replicate_succ, Array.replicate_zero, List.push_toArray, List.append_toArray, List.nil_append, List.cons_append]
  gi_wp2
  obtain ⟨W0, hW0⟩ : ∃ W0, W0 = w.alloc (.cells #[.slice none 0 0] 246) := ⟨_, rfl⟩
  have hB0 : Below w.heap.size w W0 := by rw [hW0]; exact (Below.refl _ w).alloc (Nat.le_refl _) _
  have hsz : W0.heap.size = w.heap.size + 1 := by rw [hW0]; simp
  have bO : Boxed W0 w.heap.size 246 (.slice none 0 0) := by rw [hW0]; exact Boxed.new w _ _
  have hBn : Bn < w.heap.size := World.block_lt_of_cell? w _ hc
  have hc0 : W0.cell? ⟨Bn, 0, none⟩ = some (.pointer (some ⟨bm, 0, none⟩)) := (hB0.cell (p := ⟨Bn, 0, none⟩) hBn).trans hc
  rw [← hW0]
  clear hW0
  refine wpIn_rangeFunc_ownH rfl (by omega) (gf := 122) (lb := #[.pointer (some ⟨Bn, 0, none⟩)]) rfl trivial (enters_of Tryz.func122 (by kernel_rfl) rfl)
    (all_stops 5 (by omega) Bn bm B w.heap.size ev M xs hxs hm W0 (by omega) (by omega) hc0 (h.below hB0) h.lt (fun g hg => (h.row.lt g hg).2)) belowK_t (belowK_b (by omega)) (Below.refl _ _) (fun _ => rfl)
    (fun pre W => (∃ v, Boxed W w.heap.size 246 v ∧ W.ownsRow w.heap.size 148 6 v pre.length (rowP pre) ∧ True) ∧ Below w.heap.size w W)
    (fun _ _ _ => False)
    (OwnFrom.and (Own.from (holdsRow_own w.heap.size w.heap.size 246 148 6 (fun pre => pre.length) (fun pre => rowP pre) (fun _ _ => True)) _) (ownFrom_below (Nat.le_refl _) (by omega)))
    (fun _ _ _ _ _ hs _ _ => hs)
    ⟨⟨_, bO, World.ownsRow_nil _ _ _ _, trivial⟩, hB0⟩
    (fun x a' W => ∃ Bx, w.heap.size < Bx ∧ W.heap[Bx]? = some (.cells (plC x.1).toArray 148 (0, 0)) ∧ a' = { tmps := #[.slice none 0 0, .func (.func 122) #[] #[.pointer (some ⟨Bn, 0, none⟩)], .pointer (some ⟨w.heap.size, 0, none⟩), undef, .slice none 0 0, .pointer (some ⟨Bx, 0, none⟩), .func (.func 122) #[] #[.pointer (some ⟨Bn, 0, none⟩)], .agg #[.int .i64 (x.1.slot : Int), .string x.1.node.path, .int .i64 x.1.node.kind, .int .i64 x.1.node.mode, .int .i64 x.1.node.tag, .string x.1.node.data], undef, undef, undef, undef, undef], defers := [] })
    (fun x a' _ X Y row hs hg hr => by
      obtain ⟨Bx, h1, h2, h3⟩ := hs
      refine ⟨Bx, h1, (hg.block Bx (lt_of_heap h2) fun e => ?_).trans h2, h3⟩
      obtain ⟨_, o, ho, hcc⟩ := hr Bx e.symm
      rw [h2] at ho
      cases ho
      cases hcc)
    ?assign ?body ?done ?stop
  case assign =>
    rintro l pre x W K ⟨⟨v, hv, hrow, _⟩, hB1⟩ hK
    dsimp only [encP]
    gi_wp2
    exact hK _ _ ((KeepsOthers.alloc _ _).from _) ((Below.refl _ W).alloc hB1.size _) ⟨⟨v, hv.alloc _, hrow.alloc _, trivial⟩, hB1.alloc hB1.size _⟩ ⟨W.heap.size, hv.lt, heap_alloc_new W _, rfl⟩
  case body =>
    rintro l pre x a' W hl ⟨r, hr⟩ ⟨⟨v, hv, hrow, _⟩, hB1⟩ ⟨Bx, hBx, bX, rfl⟩ hlt
    have cX := fun j => cell_of_row W Bx j _ _ _ bX
    have x0 := cX 0
    have x1 := cX 1
    have x2 := cX 2
    have x3 := cX 3
    have x4 := cX 4
    have x5 := cX 5
    simp [plC] at x0 x1 x2 x3 x4 x5
    clear cX
    have hcv := hv.cell
    have hsW := hB1.size
    have k1 : ∀ u ∈ plC x.1, u.oneCell' = true := by simp [plC, Value.oneCell']
    have k2 : pre.length + 1 ≤ maxLen := by unfold maxLen; omega
    have k3 : (pre.length + 1) * 64 ≤ 140737488355328 := by omega
    have k4 : ∀ o, w.heap.size ≤ (W.alloc o).heap.size := fun o => by rw [World.size_alloc]; omega
    have k5 : ∀ j u, (plC x.1)[j]? = some u → (W.alloc (.cells #[.int .i64 (x.1.slot : Int), .string x.1.node.path, .int .i64 x.1.node.kind, .int .i64 x.1.node.mode, .int .i64 x.1.node.tag, .string x.1.node.data] 148)).cell? ((⟨W.heap.size, 0, none⟩ : Addr).add j) = some u := fun j u hj =>
      cells_at (L := plC x.1) (t := 148) (heap_alloc_new W (.cells (plC x.1).toArray 148)) 0 j u (by simpa using hj)
    gi_wp2_with (gi_at_builtin; refine wpListIn_append_own _ rfl _ _ 246 rfl w.heap.size 148 i0 zPl 6 64 Tryz.underlying246 hi0 hz0 hz1 hz2 rfl (by decide) _ _ _ rfl (hrow.alloc _) ⟨W.heap.size, 0, none⟩ 1 1 (plC x.1) rfl rfl k5 k1 k2 k3 (k4 _) ?_; intro v' w1 hown' hgrow _; obtain ⟨g', cap', rfl⟩ := ownsRow_succ hown'; obtain ⟨hv1, hv2, hr2, hk2, hb2⟩ := hv.appended (by decide) hrow hB1.size (Nat.le_refl _) hown' hgrow; have hc1 := hv1.cell; have hf1 := hv1.frozen)
    refine ⟨hk2.from _, hb2, ⟨_, hv2, ?_, trivial⟩, hB1.trans hb2⟩
    rw [rowP_snoc, List.length_append]
    exact hr2
  case done =>
    rintro D zs W hD hzs ⟨⟨v, hv, hrow, _⟩, hB1⟩ hK
    rw [hzs] at hrow
    have hcv := hv.cell
    gi_wp2
    refine ⟨by simp, .inl ⟨_, _, rfl, run_takeDeferred hK, ?_⟩⟩
    refine ⟨_, results_tmp rfl _ _ _, v, rfl, ownsRow_putObj hrow _ hK rfl, hB1.trans (belowK_b (w := w) (Nat.le_refl _) W D _ _ (by omega) hK rfl rfl)⟩
  case stop =>
    rintro D c pre W _ _ hf _
    exact hf.elim

theorem collect_any (w : World) (Bn B bm : Nat) (ev : Value) (M : List Pl) (xs : List Ps) (hxs : xs.map (·.1) = M) (hc : w.cell? ⟨Bn, 0, none⟩ = some (.pointer (some ⟨bm, 0, none⟩))) (h : MAt w B bm ev M) (hm : M.length ≤ 1000) :
    Calls Tryz.prog 187 #[.func (.func 122) #[] #[.pointer (some ⟨Bn, 0, none⟩)]] w fun e W' => ∃ v, e = .returned v ∧ W'.ownsRow w.heap.size 148 6 v xs.length (rowP xs) ∧ Below w.heap.size w W' := by
  have ha := callsIn_wide.1 (appendSeq_in w Bn B bm ev M xs hxs hc h hm)
  go_enter Tryz.func187, Tryz.ntmps187
  go_wp2_with fail
  refine ha.mono ?_
  rintro e w1 ⟨v, rfl, ho, hb⟩
  go_wp2_with fail
  go_ret
  exact ⟨v, rfl, ho, hb⟩
theorem all_any (w : World) (bm : Nat) :
    Calls Tryz.prog 83 #[.pointer (some ⟨bm, 0, none⟩)] w fun e w' => e = .returned (.func (.func 122) #[] #[.pointer (some ⟨w.heap.size, 0, none⟩)]) ∧ w' = w.alloc (.cells #[.pointer (some ⟨bm, 0, none⟩)] 144) :=
  callsIn_wide.1 (all_in 6 bm w)
end Go.Proofs.YtcbindgpbeaebaaGreatDoor

namespace Go.Proofs.YtcbindgpbeaebaaGreatDoor
open Go.RowKit Go.Deep
attribute [local go_sem ↓] Go.wp_at_zero Go.wp_at_succ

/-- May there be such a node? -/
def okNode (n : Nd) : Bool := okPath n.path && decide (0 ≤ n.mode) && decide (n.mode ≤ 511) && decide (0 ≤ n.tag) && decide (n.tag ≤ 255) &&
  (if n.kind = 1 then decide (n.data.size ≤ 400) else if n.kind = 2 then decide (n.data.size = 0) else false)

theorem isEmpty_size (s : ByteArray) : s.toList.isEmpty = decide (s.size = 0) := by
  rw [Lib.toList_data, Lib.size_eq]
  cases s.data.toList <;> simp

set_option maxRecDepth 100000 in
set_option maxHeartbeats 3200000 in
theorem isNode_any (w : World) (n : Nd) (hp : n.path.size ≤ 4611686018427387904) : Calls Tryz.prog 114 #[ndV n] w fun e w' => e = .returned (.bool (okNode n)) ∧ Below w.heap.size w w' := by
  obtain ⟨path, kind, mode, tag, data⟩ := n
  unfold ndV
  simp only at hp ⊢
  have hE := isEmpty_size data
  obtain ⟨ok, hok⟩ : ∃ ok, okPath path = ok := ⟨_, rfl⟩
  have hon : okNode ⟨path, kind, mode, tag, data⟩ = (ok && decide (0 ≤ mode) && decide (mode ≤ 511) && decide (0 ≤ tag) && decide (tag ≤ 255) && (if kind = 1 then decide (data.size ≤ 400) else if kind = 2 then decide (data.size = 0) else false)) := by simp only [okNode, hok]
  obtain ⟨r, hr⟩ : ∃ r, r = okNode ⟨path, kind, mode, tag, data⟩ := ⟨_, rfl⟩
  rw [← hr]
  rw [hon] at hr
  have HR := hide hr
  clear hr hon
  have hv := fun w => Valid_any w path hp
  rw [hok] at hv
  clear hok
  have HE := hide hE
  clear hE
  cases ok
  · go_enter Tryz.func114, Tryz.ntmps114
    go_wp2_with fail
    refine (hv _).mono ?_
    rintro e w1 ⟨rfl, o, rfl⟩
    go_wp2_with fail
    all_goals
      go_ret
      refine ⟨?_, ((Below.refl _ w).alloc (Nat.le_refl _) _).alloc (by simp) _⟩
      rw [unhide HR]
      simp
  · go_enter Tryz.func114, Tryz.ntmps114
    go_wp2_with fail
    refine (hv _).mono ?_
    rintro e w1 ⟨rfl, o, rfl⟩
    go_wp2_with fail
    all_goals
      go_ret
      refine ⟨?_, ((Below.refl _ w).alloc (Nat.le_refl _) _).alloc (by simp) _⟩
      rw [unhide HR]
      have hE := unhide HE
      clear HE HR hv
      refine congrArg (fun b => Ending.returned (Value.bool b)) ?_
      try rw [hE]
      rw [Bool.eq_iff_iff]
      by_cases k1 : kind = 1
      · first | (simp [k1] <;> omega) | (exfalso; simp_all)
      · by_cases k2 : kind = 2
        · first | (simp [k2] <;> omega) | (exfalso; simp_all)
        · first | (simp [k1, k2] <;> omega) | (exfalso; simp_all)
end Go.Proofs.YtcbindgpbeaebaaGreatDoor
