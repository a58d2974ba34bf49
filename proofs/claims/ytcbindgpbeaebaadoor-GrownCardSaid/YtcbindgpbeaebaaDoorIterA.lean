import Derived.Test.YtcbindgpbeaebaaDoorMapE
import Derived.RangeFuncNested
import Derived.RangeFuncBound
import Derived.RangeFuncCalls
import Derived.RangeFuncLeaves
import Derived.Shelf.Abstract
import Derived.Shelf.RegionOpen
import Derived.OwnWalkIn
import Derived.TacticsInMore
import Derived.LoopNIn
import Derived.LoopIn
namespace Go.Proofs.YtcbindgpbeaebaaDoor
open Go.RowKit Go.Deep Go.Shelf
attribute [local go_sem] Oper.semAt_some

/-- What a map's round is handed: a node in one of the sixty slots. -/
abbrev Ps := { p : Pl // p.slot < 60 }
def encP (x : Ps) : Array Value := #[.agg #[.int .i64 (x.1.slot : Int), .string x.1.node.path, .int .i64 x.1.node.kind, .int .i64 x.1.node.mode, .int .i64 x.1.node.tag, .string x.1.node.data]]

set_option maxRecDepth 100000 in
set_option maxHeartbeats 3200000 in
theorem all1_in (n : Nat) (hn : 1 ≤ n) (l Bn bm B n₀ : Nat) (ev : Value) (M : List Pl) (xs : List Ps) (hxs : xs.map (·.1) = M) (hm : M.length ≤ 1000) (J Jx : List Ps → World → Prop)
    (hY : ∀ pre x W, J pre W → pre.length < xs.length → YieldAt Fence.wide (n - 1) Tryd.prog l (encP x) W fun e W' =>
      (e = .returned (.bool true) ∧ J (pre ++ [x]) W' ∧ Below n₀ W W') ∨ (e = .returned (.bool false) ∧ Jx (pre ++ [x]) W'))
    (W : World) (hJ : AbidesFrom W.heap.size J) (hBn : W.cell? ⟨Bn, 0, none⟩ = some (.pointer (some ⟨bm, 0, none⟩))) (hM : MAt W B bm ev M) (hbm : bm < n₀) (hev : ∀ g, ev.ownBlock = some g → g < n₀) (hn0 : n₀ ≤ W.heap.size) (h0 : J [] W) :
    CallsIn Fence.wide n Tryd.prog 62 #[.func (.yield l) #[] #[], .pointer (some ⟨Bn, 0, none⟩)] W fun e W' => (∃ v, e = .returned v) ∧
      ((∃ ys, ys = xs ∧ J ys W') ∨ (∃ pre, pre <+: xs ∧ Jx pre W')) := by
  have mc := hM.cell
  obtain ⟨ao, cap, rfl⟩ := row_form hM.row
  have hlen : xs.length = M.length := by rw [← hxs, List.length_map]
  refine callsIn_of_wp Tryd.func62 rfl trivial ?_ rfl
  simp only [Tryd.ntmps62, List.size_toArray, List.length_cons, List.length_nil, Nat.reduceAdd, Nat.reduceSub, Array.replicate_succ, Array.replicate_zero, List.push_toArray, List.append_toArray, List.nil_append, List.cons_append]
  gi_wp2
  gi_loopw [10] (fun i wr => ∃ k : Nat, i = .int .i64 k ∧ k ≤ M.length ∧ MAt wr B bm (.slice ao M.length cap) M ∧ J (xs.take k) wr ∧ n₀ ≤ wr.heap.size) (fun i _ => M.length - (intOf i).toNat)
  case atStart => exact ⟨0, rfl, Nat.zero_le _, hM, by simpa using h0, hn0⟩
  case round =>
    obtain ⟨k, rfl, hk, hr, hJs, hnr⟩ := hrel
    by_cases hlt : k < M.length
    · obtain ⟨x, hx⟩ : ∃ x, xs[k]? = some x := ⟨_, List.getElem?_eq_getElem (by omega)⟩
      have hp : M[k]? = some x.1 := by rw [← hxs, List.getElem?_map, hx]; rfl
      obtain ⟨g, cap', hv, ⟨c0, c1, c2, c3, c4, c5, c6⟩, hg⟩ := row7_at hr.row k x.1 hp
      simp only [Value.slice.injEq, true_and] at hv
      obtain ⟨rfl, rfl⟩ := hv
      have i0 : (0 : Int) ≤ (k : Int) := Int.natCast_nonneg _
      have i1 : (k : Int) < (M.length : Int) := by omega
      have hrA := hr.below ((Below.refl _ wr).alloc (Nat.le_refl _) (.cells #[.string x.1.node.path, .int .i64 (x.1.slot : Int), .string x.1.node.path, .int .i64 x.1.node.kind, .int .i64 x.1.node.mode, .int .i64 x.1.node.tag, .string x.1.node.data] 124))
      obtain ⟨fn, tmps, assign, body, hy, hR⟩ := hY (xs.take k) x (wr.alloc (.cells #[.string x.1.node.path, .int .i64 (x.1.slot : Int), .string x.1.node.path, .int .i64 x.1.node.kind, .int .i64 x.1.node.mode, .int .i64 x.1.node.tag, .string x.1.node.data] 124)) (hJ _ wr _ none hJs (World.grownBy_alloc wr _ none) (fun r e => by cases e)) (by rw [List.length_take]; omega)
      dsimp only [encP] at hy
      have hx' := hide hx
      clear hx
      gi_wp2
      refine hR.mono ?_
      rintro e W3 (⟨rfl, hJ3, hk3⟩ | ⟨rfl, hJx3⟩)
      · gi_wp2
        go_roundw
        case rel =>
          refine ⟨k + 1, by go_num, by omega, ?_, ?_, Nat.le_trans hnr (Nat.le_trans (by simp) hk3.size)⟩
          · refine hrA.kept fun q _ hq => hk3.block q ?_
            rcases hq with rfl | hq
            · exact hbm
            · exact hev q hq
          · rw [List.take_add_one, unhide hx']
            exact hJ3
        case measure => simp [intOf]; omega
      · gi_wp2
        refine bodyPost_ret (results_none rfl _ _ _) rfl ?_
        refine ⟨⟨_, rfl⟩, .inr ⟨xs.take k ++ [x], ?_, hJx3⟩⟩
        have e : xs.take (k + 1) = xs.take k ++ [x] := by rw [List.take_add_one, unhide hx']; rfl
        rw [← e]
        exact List.take_prefix _ _
    · gi_wp2
      go_end0
      refine ⟨⟨_, rfl⟩, .inl ⟨xs, rfl, ?_⟩⟩
      rw [List.take_of_length_le (by omega)] at hJs
      exact hJs

theorem all_in (n : Nat) (bm : Nat) (w : World) :
    CallsIn Fence.wide n Tryd.prog 38 #[.pointer (some ⟨bm, 0, none⟩)] w fun e w' => e = .returned (.func (.func 62) #[] #[.pointer (some ⟨w.heap.size, 0, none⟩)]) ∧ w' = w.alloc (.cells #[.pointer (some ⟨bm, 0, none⟩)] 84) := by
  refine callsIn_of_wp Tryd.func38 rfl trivial ?_ rfl
  simp only [Tryd.ntmps38, List.size_toArray, List.length_cons, List.length_nil, Nat.reduceAdd, Nat.reduceSub, Array.replicate_succ, Array.replicate_zero, List.push_toArray, List.append_toArray, List.nil_append, List.cons_append]
  gi_wp2
  go_ret
  exact ⟨rfl, rfl⟩

theorem all_stops (n : Nat) (hn : 1 ≤ n) (Bn bm B n₀ : Nat) (ev : Value) (M : List Pl) (xs : List Ps) (hxs : xs.map (·.1) = M) (hm : M.length ≤ 1000) (w : World) (hBn : Bn < w.heap.size) (hn₀ : n₀ ≤ w.heap.size)
    (hc : w.cell? ⟨Bn, 0, none⟩ = some (.pointer (some ⟨bm, 0, none⟩))) (hM : MAt w B bm ev M) (hbm : bm < n₀) (hev : ∀ g, ev.ownBlock = some g → g < n₀) :
    SeqStopsK Fence.wide n Tryd.prog 62 #[.pointer (some ⟨Bn, 0, none⟩)] encP (Below n₀) (fun ys => ys = xs) (fun pre => pre <+: xs) xs.length w := fun l J Jx W hW hJ _ hY h0 =>
  all1_in n hn l Bn bm B n₀ ev M xs hxs hm J Jx hY W hJ ((hW.cell (p := ⟨Bn, 0, none⟩) hBn).trans hc) (hM.kept fun k hk _ => hW.block k hk) hbm hev (Nat.le_trans hn₀ hW.size) h0
end Go.Proofs.YtcbindgpbeaebaaDoor
