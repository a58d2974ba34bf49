import Derived.Test.YtcbindgpbeaebaaWalkQ
namespace Go.Proofs.Ytcbindgpbeaebaa
open Go.RowKit Go.Deep
attribute [local go_sem ↓] Go.wp_at_zero Go.wp_at_succ

/-- A disk that nothing is written to, of any number of blocks (none among them). -/
structure SAt (w : World) (bd : Nat) (sv lv : Value) (S : List ByteArray) (wt lf fd : Int) : Prop where
  own : w.heap[bd]? = some (.cells #[sv, lv, .int .i64 wt, .int .i64 lf, .int .i64 fd] 55 (0, 0))
  safe : w.ownsRow 0 9 1 sv S.length (S.map Value.string)
  late : w.ownsRow 0 70 2 lv 0 []
theorem SAt.form {w : World} {bd : Nat} {sv lv : Value} {S : List ByteArray} {wt lf fd : Int} (h : SAt w bd sv lv S wt lf fd) : ∃ ao cap, sv = .slice ao S.length cap := ownsRow_form h.safe
theorem SAt.below {w w' : World} {bd : Nat} {sv lv : Value} {S : List ByteArray} {wt lf fd : Int} (h : SAt w bd sv lv S wt lf fd) (hb : Below w.heap.size w w') : SAt w' bd sv lv S wt lf fd :=
  ⟨(hb.block bd (lt_of_heap h.own)).trans h.own, ownsRow_kept h.safe fun g hg => hb.block g (h.safe.lt g hg).2, ownsRow_kept h.late fun g hg => hb.block g (h.late.lt g hg).2⟩
theorem SAt.drew {w : World} {bd : Nat} {sv lv : Value} {S : List ByteArray} {wt lf fd : Int} (h : SAt w bd sv lv S wt lf fd) : SAt w.drew bd sv lv S wt lf fd := ⟨h.own, h.safe.drew, h.late.drew⟩
theorem SAt.alloc {w : World} {bd : Nat} {sv lv : Value} {S : List ByteArray} {wt lf fd : Int} (h : SAt w bd sv lv S wt lf fd) (o : Obj) : SAt (w.alloc o) bd sv lv S wt lf fd :=
  ⟨(Below.heap_alloc w o bd (lt_of_heap h.own)).trans h.own, h.safe.alloc o, h.late.alloc o⟩
theorem SAt.setOther {w : World} {bd : Nat} {sv lv : Value} {S : List ByteArray} {wt lf fd : Int} (h : SAt w bd sv lv S wt lf fd) {k : Nat} {cs : Array Value} {t : TypeId} {fr : Nat × Nat} (hk : w.heap[k]? = some (.cells cs t fr)) (h2 : t ≠ 55) (h3 : 9 ≠ t) (h4 : 70 ≠ t) (i : Nat) (u : Value) : SAt (w.setCell ⟨k, i, none⟩ u) bd sv lv S wt lf fd := by
  have hown := h.own
  exact ⟨(Below.heap_setCell _ _ _ _ (fun e => by (simp only at e; rw [e, hk] at hown; cases hown; exact h2 rfl))).trans h.own, ownsRow_set h.safe _ (ownsRow_ne h.safe hk h3) _, ownsRow_set h.late _ (ownsRow_ne h.late hk h4) _⟩
theorem sblocks (w : World) (bd : Nat) (sv lv : Value) (S : List ByteArray) (wt lf fd : Int) (h : SAt w bd sv lv S wt lf fd) : Calls Try.prog 8 #[.pointer (some ⟨bd, 0, none⟩)] w fun e w' => e = .returned (.int .i64 (S.length : Int)) ∧ w' = w := by
  obtain ⟨ao, cap, hs⟩ := h.form
  subst hs
  obtain ⟨c0, c1, c2, c3, c4, z0, z1⟩ := five_fz h.own
  go_enter Try.func8, Try.ntmps8
  go_wp2
  go_ret
  exact ⟨rfl, rfl⟩
theorem sdead (w : World) (bd : Nat) (sv lv : Value) (S : List ByteArray) (wt lf fd : Int) (h : SAt w bd sv lv S wt lf fd) : Calls Try.prog 15 #[.pointer (some ⟨bd, 0, none⟩)] w fun e w' => e = .returned (.bool (lf == 0)) ∧ w' = w := by
  obtain ⟨c0, c1, c2, c3, c4, z0, z1⟩ := five_fz h.own
  go_enter Try.func15, Try.ntmps15
  go_wp2
  go_ret
  exact ⟨rfl, rfl⟩
theorem sfailed (w : World) (bd : Nat) (sv lv : Value) (S : List ByteArray) (wt lf fd : Int) (h : SAt w bd sv lv S wt lf fd) : Calls Try.prog 35 #[.pointer (some ⟨bd, 0, none⟩)] w fun e w' => e = .returned (.int .i64 fd) ∧ w' = w := by
  obtain ⟨c0, c1, c2, c3, c4, z0, z1⟩ := five_fz h.own
  go_enter Try.func35, Try.ntmps35
  go_wp2
  go_ret
  exact ⟨rfl, rfl⟩
theorem sopen (w : World) (bd : Nat) (sv lv : Value) (S : List ByteArray) (wt lf fd : Int) (h : SAt w bd sv lv S wt lf fd) (hs : S.length ≤ 90) : Calls Try.prog 10 #[.pointer (some ⟨bd, 0, none⟩)] w fun e w' => e = .returned (.tuple #[.pointer none, .int .i64 1]) ∧ w' = w := by
  go_enter Try.func10, Try.ntmps10
  go_wp2_with (go_at_call 8; refine (sblocks w bd sv lv S wt lf fd h).mono ?_; rintro e w' ⟨rfl, hw⟩; have hw := hw.symm; subst hw)
  go_ret2
  exact ⟨rfl, rfl⟩
theorem SAt.set (w : World) (bd : Nat) (sv lv : Value) (S : List ByteArray) (wt lf fd : Int) (h : SAt w bd sv lv S wt lf fd) (i : Nat) (u : Value) (wt' lf' fd' : Int) (hc : (#[sv, lv, .int .i64 wt, .int .i64 lf, .int .i64 fd] : Array Value).setIfInBounds i u = #[sv, lv, .int .i64 wt', .int .i64 lf', .int .i64 fd']) : SAt (w.setCell ⟨bd, i, none⟩ u) bd sv lv S wt' lf' fd' :=
  ⟨by rw [heap_setCell_same w bd i _ _ u h.own, hc], ownsRow_set h.safe _ (ownsRow_ne h.safe h.own (by decide)) _, ownsRow_set h.late _ (ownsRow_ne h.late h.own (by decide)) _⟩
theorem sfail (w : World) (bd : Nat) (sv lv : Value) (S : List ByteArray) (wt lf fd : Int) (h : SAt w bd sv lv S wt lf fd) (n : Int) : Calls Try.prog 20 #[.pointer (some ⟨bd, 0, none⟩), .int .i64 n] w fun e w' => e = .returned (.tuple #[]) ∧ (∃ wt', SAt w' bd sv lv S wt' lf fd) ∧ DStep bd bd (.slice none 0 0) (.slice none 0 0) w w' := by
  obtain ⟨c0, c1, c2, c3, c4, z0, z1⟩ := five_fz h.own
  have z2 := frozen_of_row w bd 2 _ _ h.own
  by_cases h0 : 0 ≤ n
  · go_enter Try.func20, Try.ntmps20
    go_wp2
    go_end0
    exact ⟨rfl, ⟨n, SAt.set w bd sv lv S wt lf fd h 2 _ _ _ _ (by simp)⟩, (DStep.refl _ _ _ _).setOwn _ _⟩
  · have h1 : n < 0 := by omega
    clear h0
    go_enter Try.func20, Try.ntmps20
    go_wp2
    go_end0
    exact ⟨rfl, ⟨0, SAt.set w bd sv lv S wt lf fd h 2 _ _ _ _ (by simp)⟩, (DStep.refl _ _ _ _).setOwn _ _⟩
theorem sdie (w : World) (bd : Nat) (sv lv : Value) (S : List ByteArray) (wt lf fd : Int) (h : SAt w bd sv lv S wt lf fd) (n : Int) : Calls Try.prog 14 #[.pointer (some ⟨bd, 0, none⟩), .int .i64 n] w fun e w' => e = .returned (.tuple #[]) ∧ (∃ lf', SAt w' bd sv lv S wt lf' fd) ∧ DStep bd bd (.slice none 0 0) (.slice none 0 0) w w' := by
  obtain ⟨c0, c1, c2, c3, c4, z0, z1⟩ := five_fz h.own
  have z3 := frozen_of_row w bd 3 _ _ h.own
  by_cases h0 : 0 ≤ n
  · go_enter Try.func14, Try.ntmps14
    go_wp2
    go_end0
    exact ⟨rfl, ⟨n, SAt.set w bd sv lv S wt lf fd h 3 _ _ _ _ (by simp)⟩, (DStep.refl _ _ _ _).setOwn _ _⟩
  · have h1 : n < 0 := by omega
    clear h0
    go_enter Try.func14, Try.ntmps14
    go_wp2
    go_end0
    exact ⟨rfl, ⟨0, SAt.set w bd sv lv S wt lf fd h 3 _ _ _ _ (by simp)⟩, (DStep.refl _ _ _ _).setOwn _ _⟩
set_option maxRecDepth 100000 in
set_option maxHeartbeats 1600000 in
theorem scrash (w : World) (bd : Nat) (sv lv : Value) (S : List ByteArray) (wt lf fd : Int) (h : SAt w bd sv lv S wt lf fd) (ko : Option Addr) (kn kc : Nat) :
    Calls Try.prog 16 #[.pointer (some ⟨bd, 0, none⟩), .slice ko kn kc] w fun e w' => e = .returned (.tuple #[]) ∧ SAt w' bd sv (.slice none 0 0) S (-1) (-1) fd ∧ DStep bd bd (.slice none 0 0) (.slice none 0 0) w w' := by
  obtain ⟨lo, lcap, hl⟩ := ownsRow_form h.late
  subst hl
  obtain ⟨c0, c1, c2, c3, c4, z0, z1⟩ := five_fz h.own
  have z2 := frozen_of_row w bd 2 _ _ h.own
  have z3 := frozen_of_row w bd 3 _ _ h.own
  go_enter Try.func16, Try.ntmps16
  go_wp2_with fail
  go_loopw [4] (fun i wr => i = .int .i64 0 ∧ wr = w) (fun _ _ => 0)
  case atStart => exact ⟨rfl, rfl⟩
  case round =>
    obtain ⟨rfl, hwr⟩ := hrel
    have hwr := hwr.symm
    subst hwr
    go_wp2_with fail
    go_end0
    have e1 := heap_setCell_same _ bd 1 _ _ (.slice none 0 0) h.own
    have e2 := heap_setCell_same _ bd 2 _ _ (.int .i64 (-1)) e1
    have e3 := heap_setCell_same _ bd 3 _ _ (.int .i64 (-1)) e2
    have s1 := ownsRow_set h.safe ⟨bd, 1, none⟩ (ownsRow_ne h.safe h.own (by decide)) (.slice none 0 0)
    have s2 := ownsRow_set s1 ⟨bd, 2, none⟩ (ownsRow_ne s1 e1 (by decide)) (.int .i64 (-1))
    have s3 := ownsRow_set s2 ⟨bd, 3, none⟩ (ownsRow_ne s2 e2 (by decide)) (.int .i64 (-1))
    exact ⟨rfl, ⟨by rw [e3]; simp, s3, World.ownsRow_nil _ _ _ _⟩, (((DStep.refl _ _ _ _).setOwn _ _).setOwn _ _).setOwn _ _⟩

set_option maxRecDepth 100000 in
set_option maxHeartbeats 3200000 in
theorem scopy (w : World) (bd : Nat) (sv lv : Value) (S : List ByteArray) (wt lf fd : Int) (h : SAt w bd sv lv S wt lf fd) (hn : S.length ≤ 4096) :
    Calls Try.prog 18 #[.pointer (some ⟨bd, 0, none⟩)] w fun e w' => ∃ sv' lv', e = .returned (.pointer (some ⟨w.heap.size, 0, none⟩)) ∧ SAt w' w.heap.size sv' lv' S wt lf fd ∧ Below w.heap.size w w' := by
  obtain ⟨i0, hi0, hz0, hz1, hz2⟩ := info_parts info_string
  obtain ⟨j0, hj0, hy0, hy1, hy2⟩ := info_parts info_write
  obtain ⟨so, scap, hsv⟩ := h.form
  subst hsv
  obtain ⟨lo, lcap, hlv⟩ := ownsRow_form h.late
  subst hlv
  obtain ⟨c0, c1, c2, c3, c4, z0, z1⟩ := five_fz h.own
  have ld := lt_of_heap h.own
  have hS := h.safe
  have hL := h.late
  obtain ⟨d0, d1⟩ : (∀ o, (w.alloc o).cell? ⟨bd, 0, none⟩ = some (.slice so S.length scap)) ∧ (∀ o, (w.alloc o).cell? ⟨bd, 1, none⟩ = some (.slice lo 0 lcap)) := ⟨fun o => (five_fz (h.alloc o).own).1, fun o => (five_fz (h.alloc o).own).2.1⟩
  have h1s : ∀ u ∈ S.map Value.string, u.oneCell' = true := fun u hu => by
    simp only [List.mem_map] at hu
    obtain ⟨s, _, rfl⟩ := hu
    rfl
  go_enter Try.func18, Try.ntmps18
  go_wp2_with (first
    | (at_builtin
       refine wpList_append_copy _ (by rfl) (.const (.slice none 0 0)) (.tmp 10) 52 (by rfl) w.heap.size 9 i0 _ 1 16 Try.underlying52 hi0 hz0 hz1 hz2 rfl (by omega) (by rfl) (.slice so S.length scap) S.length (S.map Value.string) (by rfl) (hS.alloc _) h1s (by simp [maxLen]; omega) (by omega) (by simp) ?_
       intro v4 w4 ho4 hg4
       obtain ⟨ao4, cap4, rfl⟩ := ownsRow_form ho4.base0
       have s4 : w.heap.size + 1 ≤ w4.heap.size := by have := hg4.size; simpa using this
       have bN := (hg4.block w.heap.size (by simp) (by simp)).trans (heap_alloc_new w _)
       have bD := (hg4.block bd (by simp; omega) (by simp)).trans ((Below.heap_alloc w (.cells #[.slice so S.length scap, .slice lo 0 lcap, .int .i64 wt, .int .i64 lf, .int .i64 fd] 55) bd ld).trans h.own)
       have hL4 : w4.ownsRow 0 70 2 (.slice lo 0 lcap) 0 [] := ownsRow_kept (hL.alloc _) fun g hg => hg4.block g (by have := (hL.lt g hg).2; simp; omega) (by simp)
       obtain ⟨a0, a1, a2, a3, a4, z0, z1⟩ := five_fz bN
       obtain ⟨b0, b1, b2, b3, b4, y0, y1⟩ := five_fz bD
       have nb : ¬ bd = w.heap.size := by omega
       have hL5 := ownsRow_set hL4 ⟨w.heap.size, 0, none⟩ (fun e => by have := (hL.lt _ e).2; simp only at this; omega) (.slice ao4 S.length cap4)
       have bN5 := heap_setCell_same w4 w.heap.size 0 _ _ (.slice ao4 S.length cap4) bN
       have n4 := ownsRow_ne ho4 bN (by decide)
       have ho5 := ownsRow_set ho4 ⟨w.heap.size, 0, none⟩ n4 (.slice ao4 S.length cap4)
       have HO5 := hide ho5
       have HN4 := hide n4
       have HG4 := hide hg4
       have HL5 := hide hL5
       have HBN5 := hide bN5
       clear ho4 hg4 bN bD hL4 hL5 bN5 n4 ho5)
    | (at_builtin
       refine wpList_append_copy _ (by rfl) (.const (.slice none 0 0)) (.tmp 16) 53 (by rfl) w.heap.size 70 j0 _ 2 24 Try.underlying53 hj0 hy0 hy1 hy2 rfl (by omega) (by rfl) (.slice lo 0 lcap) 0 [] (by rfl) (unhide HL5) (by simp) (by simp [maxLen]) (by omega) (by simp [World.setCell]; omega) ?_
       intro v6 w6 ho6 hg6
       obtain ⟨ao6, cap6, rfl⟩ := ownsRow_form ho6.base0
       have bN6 := (hg6.block w.heap.size (by simp [World.setCell]; omega) (by simp)).trans (unhide HBN5)
       simp only [List.setIfInBounds_toArray, List.set_cons_zero] at bN6
       obtain ⟨e0, e1, e2, e3, e4, x0, x1⟩ := five_fz bN6
       have HO6 := hide ho6
       have HG6 := hide hg6
       have HBN6 := hide bN6
       clear ho6 hg6 bN6))
  go_ret
  have o6 := ownsRow_kept (unhide HO5) fun g hg => (unhide HG6).block g ((unhide HO5).lt g hg).2 (by simp)
  have n6 : (Value.slice ao6 0 cap6).ownBlock ≠ some w.heap.size := ownsRow_ne (unhide HO6) (unhide HBN6) (by decide)
  have bel : Below w.heap.size w w6 := by
    refine (((Below.refl _ _).alloc (Nat.le_refl _) _).grown (unhide HG4) (by simp) (by simp)).trans ?_
    exact ((Below.refl _ _).setCell (by simp) _).grown (unhide HG6) (by simp [World.setCell]; omega) (by simp)
  refine ⟨.slice ao4 S.length cap4, .slice ao6 0 cap6, rfl, ⟨?_, ?_, ?_⟩, bel.setCell (by simp) _⟩
  · rw [heap_setCell_same w6 w.heap.size 1 _ _ _ (unhide HBN6)]; simp
  · exact ownsRow_set o6.base0 _ (unhide HN4) _
  · exact ownsRow_set (unhide HO6).base0 _ n6 _
theorem new_mem (w : World) (m : Nat) (hm : m ≤ 4096) : DAt ((w.alloc (.cells (madeCells #[.string ⟨#[]⟩] m) 9)).alloc (.cells #[.slice (some ⟨w.heap.size, 0, none⟩) m m, .slice none 0 0, .int .i64 (-1), .int .i64 (-1), .int .i64 0] 55)) (w.heap.size + 1) w.heap.size (.slice none 0 0) (newDk m) := by
  refine ⟨?_, ?_, World.ownsRow_nil _ _ _ _, by omega, by simp [Value.ownBlock], by simp [Value.ownBlock]⟩
  · have h := heap_alloc_new (w.alloc (.cells (madeCells #[.string ⟨#[]⟩] m) 9)) (.cells (dcells w.heap.size (.slice none 0 0) (newDk m)) 55)
    have e : (w.alloc (.cells (madeCells #[.string ⟨#[]⟩] m) 9)).heap.size = w.heap.size + 1 := by simp
    rw [e] at h
    simpa [dcells, newDk] using h
  · refine ⟨by simp, .inr ⟨w.heap.size, m, madeCells #[Value.string ⟨#[]⟩] m, by simp [newDk], Nat.zero_le _, ?_, by simp [newDk], by simp [maxLen]; omega, by rw [size_madeCells, Nat.mul_one], ?_⟩⟩
    · rw [Below.heap_alloc _ _ _ (by simp), heap_alloc_new]
    · rw [toList_madeCells_one]
      simp [newDk]
theorem new_big (w : World) (n : Int) (n0 : 4096 < n) :
    Calls Try.prog 6 #[.int .i64 n] w fun e w' => ∃ bd bs, e = .returned (.pointer (some ⟨bd, 0, none⟩)) ∧ DAt w' bd bs (.slice none 0 0) (newDk 4096) ∧ Below w.heap.size w w' ∧ w.heap.size ≤ bd ∧ w.heap.size ≤ bs := by
  have hmk : ∀ w, Sem.run Try.prog (Instr.makeSlice 52 (Value.int IntKind.i64 4096) (Value.int IntKind.i64 4096)) w = Result.ok (Value.slice (some ⟨w.heap.size, 0, none⟩) 4096 4096) (w.alloc (Obj.cells (madeCells #[Value.string ⟨#[]⟩] 4096) 9)) := fun w => run_make_row' (P := Try.prog) 52 9 (.string ⟨#[]⟩) 16 Try.underlying52 info_string rfl .i64 .i64 4096 (by omega) (by omega) w
  go_enter Try.func6, Try.ntmps6
  go_wp2
  go_ret
  exact ⟨w.heap.size + 1, w.heap.size, rfl, new_mem w 4096 (Nat.le_refl _), ((Below.refl _ _).alloc (Nat.le_refl _) _).alloc (by rw [World.size_alloc]; omega) _, by omega, Nat.le_refl _⟩
theorem new_none (w : World) (n : Int) (n0 : n ≤ 0) :
    Calls Try.prog 6 #[.int .i64 n] w fun e w' => ∃ bd sv, e = .returned (.pointer (some ⟨bd, 0, none⟩)) ∧ SAt w' bd sv (.slice none 0 0) [] (-1) (-1) 0 ∧ Below w.heap.size w w' ∧ w.heap.size ≤ bd := by
  have hmk : ∀ w, Sem.run Try.prog (Instr.makeSlice 52 (Value.int IntKind.i64 0) (Value.int IntKind.i64 0)) w = Result.ok (Value.slice (some ⟨w.heap.size, 0, none⟩) 0 0) (w.alloc (Obj.cells (madeCells #[Value.string ⟨#[]⟩] 0) 9)) := fun w => run_make_row' (P := Try.prog) 52 9 (.string ⟨#[]⟩) 16 Try.underlying52 info_string rfl .i64 .i64 0 (by omega) (by omega) w
  go_enter Try.func6, Try.ntmps6
  go_wp2
  go_ret
  refine ⟨w.heap.size + 1, .slice (some ⟨w.heap.size, 0, none⟩) 0 0, rfl, ⟨?_, ?_, World.ownsRow_nil _ _ _ _⟩, ?_, by omega⟩
  · have h := heap_alloc_new (w.alloc (.cells (madeCells #[.string ⟨#[]⟩] 0) 9)) (.cells #[.slice (some ⟨w.heap.size, 0, none⟩) 0 0, .slice none 0 0, .int .i64 (-1), .int .i64 (-1), .int .i64 0] 55)
    have e : (w.alloc (.cells (madeCells #[.string ⟨#[]⟩] 0) 9)).heap.size = w.heap.size + 1 := by simp
    rw [e] at h
    simpa using h
  · refine ⟨by simp, .inr ⟨w.heap.size, 0, madeCells #[Value.string ⟨#[]⟩] 0, by simp, Nat.zero_le _, ?_, by simp, by simp [maxLen], by rw [size_madeCells], ?_⟩⟩
    · rw [Below.heap_alloc _ _ _ (by simp), heap_alloc_new]
    · simp
  · exact ((Below.refl _ _).alloc (Nat.le_refl _) _).alloc (by simp) _
theorem SAt.ofD {w : World} {bd bs : Nat} {d : Dk} (h : DAt w bd bs (.slice none 0 0) d) : SAt w bd (.slice (some ⟨bs, 0, none⟩) d.safe.length d.cap) (.slice none 0 0) d.safe d.wait d.life d.failed := ⟨h.own, h.safe, World.ownsRow_nil _ _ _ _⟩
theorem open_nil (w : World) : Calls Try.prog 10 #[.pointer none] w fun e w' => e = .returned (.tuple #[.pointer none, .int .i64 1]) ∧ w' = w := by
  go_enter Try.func10, Try.ntmps10
  go_wp2_with fail
  go_ret2
  exact ⟨rfl, rfl⟩
end Go.Proofs.Ytcbindgpbeaebaa
