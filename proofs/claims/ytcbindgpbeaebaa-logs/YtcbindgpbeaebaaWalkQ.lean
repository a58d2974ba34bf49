import Derived.Test.YtcbindgpbeaebaaRefD
namespace Go.Proofs.Ytcbindgpbeaebaa
open Go.RowKit Go.Deep
attribute [local go_sem ↓] Go.wp_at_zero Go.wp_at_succ

theorem failed_any (w : World) (bd bs : Nat) (lv : Value) (d : Dk) (h : DAt w bd bs lv d) :
    Calls Try.prog 35 #[.pointer (some ⟨bd, 0, none⟩)] w fun e w' => e = .returned (.int .i64 d.failed) ∧ w' = w := by
  have c4 := h.c4
  go_enter Try.func35, Try.ntmps35
  go_wp2
  go_ret
  exact ⟨rfl, rfl⟩
/-- max(n, 0) -/
def nonNeg (n : Int) : Int := if 0 ≤ n then n else 0
theorem fail_any (w : World) (bd bs : Nat) (lv : Value) (d : Dk) (n : Int) (h : DAt w bd bs lv d) :
    Calls Try.prog 20 #[.pointer (some ⟨bd, 0, none⟩), .int .i64 n] w fun e w' => e = .returned (.tuple #[]) ∧ DAt w' bd bs lv { d with wait := nonNeg n } ∧ DStep bd bs lv lv w w' := by
  have c2 := h.c2
  have z2 := h.fz 2
  by_cases h0 : 0 ≤ n
  · have HR : Hid (nonNeg n = n) := by show nonNeg n = n; rw [nonNeg, if_pos h0]
    go_enter Try.func20, Try.ntmps20
    go_wp2
    go_end0
    exact ⟨rfl, by rw [unhide HR]; exact h.setWait n, (DStep.refl _ _ _ _).setOwn _ _⟩
  · have HR : Hid (nonNeg n = 0) := by show nonNeg n = 0; rw [nonNeg, if_neg h0]
    have h1 : n < 0 := by omega
    clear h0
    go_enter Try.func20, Try.ntmps20
    go_wp2
    go_end0
    exact ⟨rfl, by rw [unhide HR]; exact h.setWait 0, (DStep.refl _ _ _ _).setOwn _ _⟩
theorem die_all (w : World) (bd bs : Nat) (lv : Value) (d : Dk) (n : Int) (h : DAt w bd bs lv d) :
    Calls Try.prog 14 #[.pointer (some ⟨bd, 0, none⟩), .int .i64 n] w fun e w' => e = .returned (.tuple #[]) ∧ DAt w' bd bs lv { d with life := nonNeg n } ∧ DStep bd bs lv lv w w' := by
  have c3 := h.c3
  have z3 := h.fz 3
  by_cases h0 : 0 ≤ n
  · have HR : Hid (nonNeg n = n) := by show nonNeg n = n; rw [nonNeg, if_pos h0]
    go_enter Try.func14, Try.ntmps14
    go_wp2
    go_end0
    exact ⟨rfl, by rw [unhide HR]; exact h.setLife n, (DStep.refl _ _ _ _).setOwn _ _⟩
  · have HR : Hid (nonNeg n = 0) := by show nonNeg n = 0; rw [nonNeg, if_neg h0]
    have h1 : n < 0 := by omega
    clear h0
    go_enter Try.func14, Try.ntmps14
    go_wp2
    go_end0
    exact ⟨rfl, by rw [unhide HR]; exact h.setLife 0, (DStep.refl _ _ _ _).setOwn _ _⟩

theorem five_fz {w : World} {b : Nat} {x0 x1 x2 x3 x4 : Value} {t : TypeId} (h : w.heap[b]? = some (.cells #[x0, x1, x2, x3, x4] t (0, 0))) :
    w.cell? ⟨b, 0, none⟩ = some x0 ∧ w.cell? ⟨b, 1, none⟩ = some x1 ∧ w.cell? ⟨b, 2, none⟩ = some x2 ∧ w.cell? ⟨b, 3, none⟩ = some x3 ∧ w.cell? ⟨b, 4, none⟩ = some x4 ∧ w.frozen? ⟨b, 0, none⟩ = false ∧ w.frozen? ⟨b, 1, none⟩ = false := by
  refine ⟨?_, ?_, ?_, ?_, ?_, frozen_of_row w b 0 _ _ h, frozen_of_row w b 1 _ _ h⟩
  · rw [cell_of_row w b 0 _ _ _ h]; rfl
  · rw [cell_of_row w b 1 _ _ _ h]; rfl
  · rw [cell_of_row w b 2 _ _ _ h]; rfl
  · rw [cell_of_row w b 3 _ _ _ h]; rfl
  · rw [cell_of_row w b 4 _ _ _ h]; rfl

set_option maxRecDepth 100000 in
set_option maxHeartbeats 3200000 in
theorem copy_any (w : World) (bd bs : Nat) (lv : Value) (d : Dk) (h : DAt w bd bs lv d) (hn0 : 0 < d.safe.length) (hn : d.safe.length ≤ 4096) (hl : d.late.length ≤ 1000000) :
    Calls Try.prog 18 #[.pointer (some ⟨bd, 0, none⟩)] w fun e w' => ∃ bs' lv' cap', e = .returned (.pointer (some ⟨w.heap.size, 0, none⟩)) ∧ DAt w' w.heap.size bs' lv' { d with cap := cap' } ∧ Below w.heap.size w w' ∧ w.heap.size ≤ bs' ∧ ∀ g, lv'.ownBlock = some g → w.heap.size ≤ g := by
  obtain ⟨i0, hi0, hz0, hz1, hz2⟩ := info_parts info_string
  obtain ⟨j0, hj0, hy0, hy1, hy2⟩ := info_parts info_write
  obtain ⟨lo, lcap, hlv⟩ := ownsRow_form h.late
  subst hlv
  have c0 := h.c0
  have c1 := h.c1
  have c2 := h.c2
  have c3 := h.c3
  have c4 := h.c4
  have ld := h.ltd
  have hS := h.safe
  have hL := h.late
  have d0 := fun o => (h.alloc o).c0
  have d1 := fun o => (h.alloc o).c1
  have h1s : ∀ u ∈ d.safe.map Value.string, u.oneCell' = true := fun u hu => by
    simp only [List.mem_map] at hu
    obtain ⟨s, _, rfl⟩ := hu
    rfl
  go_enter Try.func18, Try.ntmps18
  go_wp2_with (first
    | (at_builtin
       refine wpList_append_copy _ (by rfl) (.const (.slice none 0 0)) (.tmp 10) 52 (by rfl) w.heap.size 9 i0 _ 1 16 Try.underlying52 hi0 hz0 hz1 hz2 rfl (by omega) (by rfl) (.slice (some ⟨bs, 0, none⟩) d.safe.length d.cap) d.safe.length (d.safe.map Value.string) (by rfl) (hS.alloc _) h1s (by simp [maxLen]; omega) (by omega) (by simp) ?_
       intro v4 w4 ho4 hg4
       obtain ⟨g4, cap4, rfl, lg4, _⟩ := ho4.form hn0
       have s4 : w.heap.size + 1 ≤ w4.heap.size := by have := hg4.size; simpa using this
       have bN := (hg4.block w.heap.size (by simp) (by simp)).trans (heap_alloc_new w _)
       have bD := (hg4.block bd (by simp; omega) (by simp)).trans ((Below.heap_alloc w (.cells #[.slice (some ⟨bs, 0, none⟩) d.safe.length d.cap, .slice lo d.late.length lcap, .int .i64 d.wait, .int .i64 d.life, .int .i64 d.failed] 55) bd ld).trans h.own)
       have hL4 : w4.ownsRow 0 70 2 (.slice lo d.late.length lcap) d.late.length (flat d.late) := ownsRow_kept (hL.alloc _) fun g hg => hg4.block g (by have := (hL.lt g hg).2; simp; omega) (by simp)
       obtain ⟨a0, a1, a2, a3, a4, z0, z1⟩ := five_fz bN
       obtain ⟨b0, b1, b2, b3, b4, y0, y1⟩ := five_fz bD
       have nb : ¬ bd = w.heap.size := by omega
       have hL5 := ownsRow_set hL4 ⟨w.heap.size, 0, none⟩ (fun e => by have := (hL.lt _ e).2; simp only at this; omega) (.slice (some ⟨g4, 0, none⟩) d.safe.length cap4)
       have bN5 := heap_setCell_same w4 w.heap.size 0 _ _ (.slice (some ⟨g4, 0, none⟩) d.safe.length cap4) bN
       have n4 := ownsRow_ne ho4 bN (by decide)
       have ho5 := ownsRow_set ho4 ⟨w.heap.size, 0, none⟩ n4 (.slice (some ⟨g4, 0, none⟩) d.safe.length cap4)
       have HO5 := hide ho5
       have HN4 := hide n4
       have HG4 := hide hg4
       have HL5 := hide hL5
       have HBN5 := hide bN5
       clear ho4 hg4 bN bD hL4 hL5 bN5 n4 ho5)
    | (at_builtin
       refine wpList_append_copy _ (by rfl) (.const (.slice none 0 0)) (.tmp 16) 53 (by rfl) w.heap.size 70 j0 _ 2 24 Try.underlying53 hj0 hy0 hy1 hy2 rfl (by omega) (by rfl) (.slice lo d.late.length lcap) d.late.length (flat d.late) (by rfl) (unhide HL5) (flat_one _) (by simp [maxLen]; omega) (by omega) (by simp [World.setCell]; omega) ?_
       intro v6 w6 ho6 hg6
       obtain ⟨ao6, cap6, rfl⟩ := ownsRow_form ho6.base0
       have bN6 := (hg6.block w.heap.size (by simp [World.setCell]; omega) (by simp)).trans (unhide HBN5)
       simp only [List.setIfInBounds_toArray, List.set_cons_zero] at bN6
       obtain ⟨e0, e1, e2, e3, e4, x0, x1⟩ := five_fz bN6
       have HO6 := hide ho6
       have HG6 := hide hg6
       have HBN6 := hide bN6
       clear ho6 hg6 bN6))
  go_ret
  have o6 := ownsRow_kept (unhide HO5) fun g hg => (unhide HG6).block g ((unhide HO5).lt g hg).2 (by simp)
  have n6 : (Value.slice ao6 d.late.length cap6).ownBlock ≠ some w.heap.size := ownsRow_ne (unhide HO6) (unhide HBN6) (by decide)
  have bel : Below w.heap.size w w6 := by
    refine (((Below.refl _ _).alloc (Nat.le_refl _) _).grown (unhide HG4) (by simp) (by simp)).trans ?_
    exact ((Below.refl _ _).setCell (by simp) _).grown (unhide HG6) (by simp [World.setCell]; omega) (by simp)
  refine ⟨g4, .slice ao6 d.late.length cap6, cap4, rfl, ⟨?_, ?_, ?_, ?_, n6, ?_⟩, bel.setCell (by simp) _, lg4, fun g hg => ((unhide HO6).lt g hg).1⟩
  · rw [heap_setCell_same w6 w.heap.size 1 _ _ _ (unhide HBN6)]; simp [dcells]
  · exact ownsRow_set o6.base0 _ (unhide HN4) _
  · exact ownsRow_set (unhide HO6).base0 _ n6 _
  · intro e; exact (unhide HN4) (by simp [Value.ownBlock, e])
  · rcases o6.2 with ⟨e, _⟩ | ⟨g, cap, cur, e, _, hg, _⟩
    · cases e
    · simp only [Value.slice.injEq, Option.some.injEq, Addr.mk.injEq, and_true] at e
      obtain ⟨rfl, _, _⟩ := e
      exact ownsRow_ne (unhide HO6) hg (by decide)
end Go.Proofs.Ytcbindgpbeaebaa
