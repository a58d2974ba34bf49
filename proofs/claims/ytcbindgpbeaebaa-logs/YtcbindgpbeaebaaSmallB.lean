import Derived.Test.YtcbindgpbeaebaaStepA
import Derived.Test.YtcbindgpbeaebaaSmallA
namespace Go.Proofs.Ytcbindgpbeaebaa
open Go.RowKit Go.Deep
attribute [local go_sem ↓] Go.wp_at_zero Go.wp_at_succ

/-- What stands between two steps of the law, on a disk that is too small for a log. -/
structure InvS (w : World) (B bw : Nat) (bd : Nat) (sv lv : Value) (S : List ByteArray) (wt lf fd : Int) (R R2 : Rf) (s1 r1 s2 r2 : Value) : Prop where
  disk : SAt w bd sv lv S wt lf fd
  own : w.heap[bw]? = some (.cells (wcells bd (.pointer none) R R2 s1 r1 s2 r2 false false) 32 (0, 0))
  hB : B ≤ w.heap.size
  bw0 : B ≤ bw
  bd0 : B ≤ bd
  n : S.length ≤ 90
def InvSE (w : World) (B bw : Nat) : Prop := ∃ bd sv lv S wt lf fd R R2 s1 r1 s2 r2, InvS w B bw bd sv lv S wt lf fd R R2 s1 r1 s2 r2
theorem InvS.below {w w' : World} {B bw bd : Nat} {sv lv : Value} {S : List ByteArray} {wt lf fd : Int} {R R2 : Rf} {s1 r1 s2 r2 : Value} (h : InvS w B bw bd sv lv S wt lf fd R R2 s1 r1 s2 r2) (hb : Below w.heap.size w w') : InvS w' B bw bd sv lv S wt lf fd R R2 s1 r1 s2 r2 :=
  ⟨h.disk.below hb, (hb.block bw (lt_of_heap h.own)).trans h.own, Nat.le_trans h.hB hb.size, h.bw0, h.bd0, h.n⟩

set_option maxRecDepth 100000 in
set_option maxHeartbeats 6400000 in
theorem opens_small (w : World) (B bw bd : Nat) (sv lv : Value) (S : List ByteArray) (wt lf fd : Int) (R R2 : Rf) (s1 r1 s2 r2 : Value) (h : InvS w B bw bd sv lv S wt lf fd R R2 s1 r1 s2 r2) :
    Calls Try.prog 19 #[.pointer (some ⟨bw, 0, none⟩)] w fun e w' => e = .returned (.bool true) ∧ InvSE w' B bw ∧ Below B w w' := by
  obtain ⟨h, hw, hB, hBw, hBd, hs⟩ := h
  obtain ⟨⟨x0, x1, x2, x3, x4, x5, x6, x7, x8, x9⟩, xz⟩ := wcell hw
  have HW := hide hw
  clear hw x2 x3 x4 x5 x6 x7 x8 x9
  go_enter Try.func19, Try.ntmps19
  go_wp2_with fail
  refine (scopy w bd sv lv S wt lf fd h (by omega)).mono ?_
  rintro e w1 ⟨sv1, lv1, rfl, d1, b1⟩
  have h1 := (b1.block bw (lt_of_heap (unhide HW))).trans (unhide HW)
  obtain ⟨⟨y0, y1, _, _, _, _, _, _, _, _⟩, yz⟩ := wcell h1
  have dA := (d1.setOther h1 (by decide) (by decide) (by decide) 0 (.pointer (some ⟨w.heap.size, 0, none⟩)))
  have hA := heap_setCell_same w1 bw 0 _ _ (.pointer (some ⟨w.heap.size, 0, none⟩)) h1
  have dB := dA.setOther hA (by decide) (by decide) (by decide) 1 (.pointer none)
  have hBk := heap_setCell_same _ bw 1 _ _ (.pointer none) hA
  have bB := ((b1.mono hB).setCell hBw (.pointer (some ⟨w.heap.size, 0, none⟩)) (p := ⟨bw, 0, none⟩)).setCell hBw (.pointer none) (p := ⟨bw, 1, none⟩)
  have s01 := b1.size
  have HDB := hide dB
  have HBK := hide hBk
  have HBB := hide bB
  clear dA hA dB hBk bB h1 d1 b1 x0 x1 xz
  go_wp2_with fail
  generalize hWB : (w1.setCell ⟨bw, 0, none⟩ (.pointer (some ⟨w.heap.size, 0, none⟩))).setCell ⟨bw, 1, none⟩ (.pointer none) = wB at HDB HBK HBB ⊢
  clear hWB
  have hK : wB.heap[bw]? = some (.cells (wcells w.heap.size (.pointer none) R R2 s1 r1 s2 r2 false false) 32 (0, 0)) := by rw [unhide HBK]; rfl
  obtain ⟨⟨z0, z1, _, _, _, _, _, _, _, _⟩, zz⟩ := wcell hK
  have HK := hide hK
  clear hK y0 y1 yz HBK
  refine (sdead wB w.heap.size sv1 lv1 S wt lf fd (unhide HDB)).mono ?_
  rintro e w2 ⟨rfl, hw2⟩
  have hw2 := hw2.symm
  subst hw2
  go_wp2_with fail
  refine (sfailed wB w.heap.size sv1 lv1 S wt lf fd (unhide HDB)).mono ?_
  rintro e w2 ⟨rfl, hw2⟩
  have hw2 := hw2.symm
  subst hw2
  go_wp2_with fail
  refine (sopen wB w.heap.size sv1 lv1 S wt lf fd (unhide HDB) hs).mono ?_
  rintro e w2 ⟨rfl, hw2⟩
  have hw2 := hw2.symm
  subst hw2
  go_wp2_with fail
  refine (sfailed wB w.heap.size sv1 lv1 S wt lf fd (unhide HDB)).mono ?_
  rintro e w2 ⟨rfl, hw2⟩
  have hw2 := hw2.symm
  subst hw2
  go_wp2_with fail
  refine (sdead wB w.heap.size sv1 lv1 S wt lf fd (unhide HDB)).mono ?_
  rintro e w2 ⟨rfl, hw2⟩
  have hw2 := hw2.symm
  subst hw2
  go_wp2_with fail
  refine (sblocks wB w.heap.size sv1 lv1 S wt lf fd (unhide HDB)).mono ?_
  rintro e w2 ⟨rfl, hw2⟩
  have hw2 := hw2.symm
  subst hw2
  have hmany : (S.length : Int) - 90 < 1 := by omega
  go_wp2_with fail
  go_ret
  exact ⟨rfl, ⟨w.heap.size, sv1, lv1, S, wt, lf, fd, R, R2, s1, r1, s2, r2, ⟨unhide HDB, unhide HK, Nat.le_trans hB (unhide HBB).size, hBw, hB, hs⟩⟩, unhide HBB⟩

theorem InvS.only {w w' : World} {B bw bd : Nat} {sv lv lv' : Value} {S : List ByteArray} {wt lf fd wt' lf' fd' : Int} {R R2 : Rf} {s1 r1 s2 r2 : Value} (h : InvS w B bw bd sv lv S wt lf fd R R2 s1 r1 s2 r2) (hd : SAt w' bd sv lv' S wt' lf' fd') (st : DStep bd bd (.slice none 0 0) (.slice none 0 0) w w') : InvSE w' B bw ∧ Below B w w' := by
  have nb : bw ≠ bd := blk_ne h.own h.disk.own (by decide)
  exact ⟨⟨bd, sv, lv', S, wt', lf', fd', R, R2, s1, r1, s2, r2, hd, (st.block bw (lt_of_heap h.own) nb nb (by simp [Value.ownBlock])).trans h.own, Nat.le_trans h.hB st.size, h.bw0, h.bd0, h.n⟩, st.below h.bd0 h.bd0 (by simp [Value.ownBlock]) h.hB⟩

theorem step_small (w : World) (B bw : Nat) (h : InvSE w B bw) (k n : Int) (s : ByteArray) (ao : Option Addr) (kn kc : Nat) :
    Calls Try.prog 9 #[.pointer (some ⟨bw, 0, none⟩), .agg #[.int .i64 k, .int .i64 n, .string s, .slice ao kn kc]] w fun e w' => e = .returned (.bool true) ∧ InvSE w' B bw ∧ Below B w w' := by
  obtain ⟨bd, sv, lv, S, wt, lf, fd, R, R2, s1, r1, s2, r2, h⟩ := h
  have hbw := lt_of_heap h.own
  obtain ⟨⟨x0, x1, _⟩, xz⟩ := wcell h.own
  have ha : ∀ o, InvS (w.alloc o) B bw bd sv lv S wt lf fd R R2 s1 r1 s2 r2 := fun o => h.below ((Below.refl _ _).alloc (Nat.le_refl _) o)
  have hb : ∀ o, Below B w (w.alloc o) := fun o => (Below.refl _ _).alloc h.hB o
  have hdw : ∀ o, InvS (w.alloc o).drew B bw bd sv lv S wt lf fd R R2 s1 r1 s2 r2 := fun o => (ha o).below (Below.refl _ _).drew
  by_cases k1 : k = 1
  · subst k1
    refine step_open w bw n s _ (fun w' => InvSE w' B bw ∧ Below B w w') fun o => (opens_small (w.alloc o) B bw bd sv lv S wt lf fd R R2 s1 r1 s2 r2 (ha o)).mono ?_
    rintro e w' ⟨he, hi, hbb⟩
    exact ⟨he, hi, (hb o).trans hbb⟩
  by_cases k2 : k = 11
  · subst k2
    refine step_fail w bw bd n s _ (fun w' => InvSE w' B bw ∧ Below B w w') hbw x0 fun o => (sfail (w.alloc o).drew bd sv lv S wt lf fd (hdw o).disk n).mono ?_
    rintro e w' ⟨he, ⟨wt', hd⟩, st⟩
    obtain ⟨q1, q2⟩ := (hdw o).only hd st
    exact ⟨he, q1, (hb o).drew.trans q2⟩
  by_cases k3 : k = 12
  · subst k3
    refine step_die w bw bd n s _ (fun w' => InvSE w' B bw ∧ Below B w w') hbw x0 fun o => (sdie (w.alloc o).drew bd sv lv S wt lf fd (hdw o).disk n).mono ?_
    rintro e w' ⟨he, ⟨lf', hd⟩, st⟩
    obtain ⟨q1, q2⟩ := (hdw o).only hd st
    exact ⟨he, q1, (hb o).drew.trans q2⟩
  by_cases k4 : k = 13
  · subst k4
    have hset : InvS (w.setCell ⟨bw, 1, none⟩ (.pointer none)) B bw bd sv lv S wt lf fd R R2 s1 r1 s2 r2 := by
      refine ⟨h.disk.setOther h.own (by decide) (by decide) (by decide) 1 _, ?_, by simp [World.setCell]; exact h.hB, h.bw0, h.bd0, h.n⟩
      rw [heap_setCell_same w bw 1 _ _ _ h.own]; rfl
    have hc : ∀ o, InvS ((w.setCell ⟨bw, 1, none⟩ (.pointer none)).alloc o).drew B bw bd sv lv S wt lf fd R R2 s1 r1 s2 r2 := fun o => (hset.below ((Below.refl _ _).alloc (Nat.le_refl _) o)).below (Below.refl _ _).drew
    have hcb : ∀ o, Below B w ((w.setCell ⟨bw, 1, none⟩ (.pointer none)).alloc o).drew := fun o => (((Below.refl B w).setCell h.bw0 _).alloc hset.hB o).drew
    refine step_crash w bw bd n s ao kn kc (fun w' => InvSE w' B bw ∧ Below B w w') hbw x0 _ x1 xz fun o => (scrash _ bd sv lv S wt lf fd (hc o).disk ao kn kc).mono ?_
    rintro e w' ⟨he, hd, st⟩
    obtain ⟨q1, q2⟩ := (hc o).only hd st
    exact ⟨he, q1, (hcb o).trans q2⟩
  refine (step_nil w bw k n s _ hbw x1 (by simpa using k1) (by simpa using k2) (by simpa using k3) (by simpa using k4)).mono ?_
  rintro e w' ⟨he, o, rfl⟩
  exact ⟨he, ⟨bd, sv, lv, S, wt, lf, fd, R, R2, s1, r1, s2, r2, ha o⟩, hb o⟩
end Go.Proofs.Ytcbindgpbeaebaa
