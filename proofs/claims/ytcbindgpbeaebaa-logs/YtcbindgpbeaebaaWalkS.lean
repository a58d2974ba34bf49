import Derived.Test.YtcbindgpbeaebaaWalkR
import Derived.Test.YtcbindgpbeaebaaPureH
namespace Go.Proofs.Ytcbindgpbeaebaa
open Go.RowKit Go.Deep
attribute [local go_sem ↓] Go.wp_at_zero Go.wp_at_succ

/-- The cells of the law's own struct. -/
def wcells (bd : Nat) (xv : Value) (R R2 : Rf) (sv rv sv2 rv2 : Value) (tw br : Bool) : Array Value :=
  #[.pointer (some ⟨bd, 0, none⟩), xv, .int .i64 R.many, sv, rv, .int .i64 R2.many, sv2, rv2, .bool tw, .bool br]
theorem blk_ne {w : World} {a b : Nat} {cs cs' : Array Value} {t t' : TypeId} {fr fr' : Nat × Nat} (ha : w.heap[a]? = some (.cells cs t fr)) (hb : w.heap[b]? = some (.cells cs' t' fr')) (h : t ≠ t') : a ≠ b := by
  intro e
  subst e
  rw [ha] at hb
  simp only [Option.some.injEq, Obj.cells.injEq] at hb
  exact h hb.2.1
/-- A block of a type that is none of a log's or a disk's stays. -/
theorem Sys.keep {w w' : World} {B bl bd bs : Nat} {pv lv lv' : Value} {ps : List (Nat × ByteArray)} {br : Bool} {d : Dk} (s : Sys w B bl bd bs pv lv ps br d) (st : SStep bl bd bs pv lv lv' w w') {k : Nat} {cs : Array Value} {t : TypeId} {fr : Nat × Nat} (hk : w.heap[k]? = some (.cells cs t fr))
    (h1 : t ≠ 63) (h2 : t ≠ 55) (h3 : t ≠ 9) (h4 : t ≠ 67) (h5 : t ≠ 70) : w'.heap[k]? = some (.cells cs t fr) := by
  obtain ⟨cur, hbs, _⟩ := s.disk.sb
  exact (st.block k (lt_of_heap hk) (blk_ne hk s.log.own h1) (blk_ne hk s.disk.own h2) (blk_ne hk hbs h3) (ownsRow_ne s.log.puts hk (Ne.symm h4)) (ownsRow_ne s.disk.late hk (Ne.symm h5))).trans hk
theorem ownsRow_blk {w : World} {b : Nat} {e : TypeId} {size : Nat} {v : Value} {n : Nat} {xs : List Value} (h : w.ownsRow b e size v n xs) {g : Nat} (hg : v.ownBlock = some g) : ∃ cur, w.heap[g]? = some (.cells cur e (0, 0)) := by
  rcases h.2 with ⟨e1, _⟩ | ⟨g', cap, cur, e1, _, hh, _⟩
  · rw [e1] at hg; cases hg
  · rw [e1] at hg
    have : g' = g := by simpa [Value.ownBlock] using hg
    subst this
    exact ⟨cur, hh⟩
theorem RAt.keepS {w w' : World} {B C bl bd bs : Nat} {pv lv lv' : Value} {ps : List (Nat × ByteArray)} {br : Bool} {d : Dk} {R : Rf} {sv rv : Value} (hr : RAt C w R sv rv) (s : Sys w B bl bd bs pv lv ps br d) (st : SStep bl bd bs pv lv lv' w w') : RAt C w' R sv rv := by
  refine ⟨ownsRow_kept hr.sure fun g hg => ?_, ownsRow_kept hr.put fun g hg => ?_, hr.sl, hr.pl⟩
  · obtain ⟨cur, hc⟩ := ownsRow_blk hr.sure hg
    rw [s.keep st hc (by decide) (by decide) (by decide) (by decide) (by decide), hc]
  · obtain ⟨cur, hc⟩ := ownsRow_blk hr.put hg
    rw [s.keep st hc (by decide) (by decide) (by decide) (by decide) (by decide), hc]
theorem RAt.setOther {w : World} {C : Nat} {R : Rf} {sv rv : Value} (hr : RAt C w R sv rv) {k : Nat} {cs : Array Value} {t : TypeId} {fr : Nat × Nat} (hk : w.heap[k]? = some (.cells cs t fr)) (ht : 84 ≠ t) (i : Nat) (u : Value) : RAt C (w.setCell ⟨k, i, none⟩ u) R sv rv :=
  ⟨ownsRow_set hr.sure _ (ownsRow_ne hr.sure hk ht) u, ownsRow_set hr.put _ (ownsRow_ne hr.put hk ht) u, hr.sl, hr.pl⟩
/-- What is known of the law's struct. -/
theorem wcell {w : World} {bw bd : Nat} {xv : Value} {R R2 : Rf} {sv rv sv2 rv2 : Value} {tw br : Bool} (h : w.heap[bw]? = some (.cells (wcells bd xv R R2 sv rv sv2 rv2 tw br) 32 (0, 0))) :
    (w.cell? ⟨bw, 0, none⟩ = some (.pointer (some ⟨bd, 0, none⟩)) ∧ w.cell? ⟨bw, 1, none⟩ = some xv ∧ w.cell? ⟨bw, 2, none⟩ = some (.int .i64 R.many) ∧ w.cell? ⟨bw, 3, none⟩ = some sv ∧ w.cell? ⟨bw, 4, none⟩ = some rv ∧ w.cell? ⟨bw, 5, none⟩ = some (.int .i64 R2.many) ∧ w.cell? ⟨bw, 6, none⟩ = some sv2 ∧ w.cell? ⟨bw, 7, none⟩ = some rv2 ∧ w.cell? ⟨bw, 8, none⟩ = some (.bool tw) ∧ w.cell? ⟨bw, 9, none⟩ = some (.bool br)) ∧ ∀ i, w.frozen? ⟨bw, i, none⟩ = false := by
  have c := fun i => cell_of_row w bw i _ _ _ h
  exact ⟨⟨c 0, c 1, c 2, c 3, c 4, c 5, c 6, c 7, c 8, c 9⟩, fun i => frozen_of_row w bw i _ _ h⟩
end Go.Proofs.Ytcbindgpbeaebaa
