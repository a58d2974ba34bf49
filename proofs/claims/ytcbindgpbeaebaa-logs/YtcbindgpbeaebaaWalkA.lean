import Derived.Test.YtcbindgpbeaebaaMem
import Derived.Deep.OwnRows
namespace Go.Proofs.Ytcbindgpbeaebaa
open Go.RowKit Go.Deep

theorem hide {p : Prop} (h : p) : Hid p := h
theorem unhide {p : Prop} (h : Hid p) : p := h

/-- (*Disk).changes -/
def Dk.changes (d : Dk) : Bool × Dk :=
  if d.life = 0 then (false, { d with failed := d.failed + 1 })
  else if d.wait = 0 then (false, { d with failed := d.failed + 1, wait := -1 })
  else (true, { d with wait := if 0 < d.wait then d.wait - 1 else d.wait, life := if 0 < d.life then d.life - 1 else d.life })

/-- The numbers of a disk lie within their bounds. -/
structure Dk.Ok (d : Dk) : Prop where
  w0 : -1 ≤ d.wait
  w1 : d.wait ≤ 9223372036854775807
  l0 : -1 ≤ d.life
  l1 : d.life ≤ 9223372036854775807
  f0 : 0 ≤ d.failed
  f1 : d.failed ≤ 9223372036854775806
  n : d.safe.length ≤ 4096
  lt : ∀ p ∈ d.late, p.1 < d.safe.length

set_option maxHeartbeats 1000000 in
theorem changes_any (w : World) (bd bs : Nat) (lv : Value) (d : Dk) (h : DAt w bd bs lv d) (ok : d.Ok) :
    Calls Try.prog 50 #[.pointer (some ⟨bd, 0, none⟩)] w fun e w' => e = .returned (.bool d.changes.1) ∧ DAt w' bd bs lv d.changes.2 ∧ DStep bd bs lv lv w w' ∧ w'.heap.size = w.heap.size := by
  obtain ⟨safe, late, wait, life, failed, cap⟩ := d
  obtain ⟨w0, w1, l0, l1, f0, f1, n, _⟩ := ok
  have c2 := h.c2
  have c3 := h.c3
  have c4 := h.c4
  have z2 := h.fz 2
  have z3 := h.fz 3
  have z4 := h.fz 4
  simp only at *
  by_cases hl : life = 0
  · subst hl
    go_enter Try.func50, Try.ntmps50
    go_wp2
    go_ret
    exact ⟨by simp [Dk.changes], by simpa [Dk.changes] using h.setFailed (failed + 1), (DStep.refl _ _ _ _).setOwn _ _, by simp [World.setCell]⟩
  · by_cases hw : wait = 0
    · subst hw
      go_enter Try.func50, Try.ntmps50
      go_wp2
      go_ret
      exact ⟨by simp [Dk.changes, hl], by simpa [Dk.changes, hl] using (h.setFailed (failed + 1)).setWait (-1), ((DStep.refl _ _ _ _).setOwn _ _).setOwn _ _, by simp [World.setCell]⟩
    · have bl : (life == 0) = false := by simpa using hl
      have bw : (wait == 0) = false := by simpa using hw
      by_cases hw1 : 0 < wait
      · by_cases hl1 : 0 < life
        · have HC : Hid (Dk.changes ⟨safe, late, wait, life, failed, cap⟩ = (true, ⟨safe, late, wait - 1, life - 1, failed, cap⟩)) := by
            show Dk.changes ⟨safe, late, wait, life, failed, cap⟩ = _
            simp [Dk.changes, hl, hw]; omega
          go_enter Try.func50, Try.ntmps50
          go_wp2
          go_ret
          rw [HC.out]
          exact ⟨rfl, (h.setWait (wait - 1)).setLife (life - 1), ((DStep.refl _ _ _ _).setOwn _ _).setOwn _ _, by simp [World.setCell]⟩
        · have HC : Hid (Dk.changes ⟨safe, late, wait, life, failed, cap⟩ = (true, ⟨safe, late, wait - 1, life, failed, cap⟩)) := by
            show Dk.changes ⟨safe, late, wait, life, failed, cap⟩ = _
            simp [Dk.changes, hl, hw]; omega
          go_enter Try.func50, Try.ntmps50
          go_wp2
          go_ret
          rw [HC.out]
          exact ⟨rfl, h.setWait (wait - 1), (DStep.refl _ _ _ _).setOwn _ _, by simp [World.setCell]⟩
      · by_cases hl1 : 0 < life
        · have HC : Hid (Dk.changes ⟨safe, late, wait, life, failed, cap⟩ = (true, ⟨safe, late, wait, life - 1, failed, cap⟩)) := by
            show Dk.changes ⟨safe, late, wait, life, failed, cap⟩ = _
            simp [Dk.changes, hl, hw]; omega
          go_enter Try.func50, Try.ntmps50
          go_wp2
          go_ret
          rw [HC.out]
          exact ⟨rfl, h.setLife (life - 1), (DStep.refl _ _ _ _).setOwn _ _, by simp [World.setCell]⟩
        · have HC : Hid (Dk.changes ⟨safe, late, wait, life, failed, cap⟩ = (true, ⟨safe, late, wait, life, failed, cap⟩)) := by
            show Dk.changes ⟨safe, late, wait, life, failed, cap⟩ = _
            simp [Dk.changes, hl, hw]; omega
          go_enter Try.func50, Try.ntmps50
          go_wp2
          go_ret
          rw [HC.out]
          exact ⟨rfl, h, DStep.refl _ _ _ _, rfl⟩

theorem dblocks_any (w : World) (bd bs : Nat) (lv : Value) (d : Dk) (h : DAt w bd bs lv d) :
    Calls Try.prog 8 #[.pointer (some ⟨bd, 0, none⟩)] w fun e w' => e = .returned (.int .i64 (d.safe.length : Int)) ∧ w' = w := by
  have c0 := h.c0
  go_enter Try.func8, Try.ntmps8
  go_wp2
  go_ret
  exact ⟨rfl, rfl⟩

theorem dead_any (w : World) (bd bs : Nat) (lv : Value) (d : Dk) (h : DAt w bd bs lv d) :
    Calls Try.prog 15 #[.pointer (some ⟨bd, 0, none⟩)] w fun e w' => e = .returned (.bool (d.life == 0)) ∧ w' = w := by
  have c3 := h.c3
  go_enter Try.func15, Try.ntmps15
  go_wp2
  go_ret
  exact ⟨rfl, rfl⟩

theorem die_any (w : World) (bd bs : Nat) (lv : Value) (d : Dk) (n : Int) (h : DAt w bd bs lv d) (h0 : 0 ≤ n) :
    Calls Try.prog 14 #[.pointer (some ⟨bd, 0, none⟩), .int .i64 n] w fun e w' => e = .returned (.tuple #[]) ∧ DAt w' bd bs lv { d with life := n } ∧ DStep bd bs lv lv w w' ∧ w'.heap.size = w.heap.size := by
  have c3 := h.c3
  have z3 := h.fz 3
  go_enter Try.func14, Try.ntmps14
  go_wp2
  go_end0
  exact ⟨rfl, by simpa using h.setLife n, (DStep.refl _ _ _ _).setOwn _ _, by simp [World.setCell]⟩

/-- gauzekeep.pick -/
def pickN (c n : Int) : Int := (if c < 0 then -(c + 1) else c) % n
theorem pick_any (w : World) (c n : Int) (c0 : -9223372036854775808 ≤ c) (c1 : c ≤ 9223372036854775807) (n0 : 0 < n) (n1 : n ≤ 9223372036854775807) :
    Calls Try.prog 11 #[.int .i64 c, .int .i64 n] w fun e w' => e = .returned (.int .i64 (pickN c n)) ∧ w' = w := by
  by_cases hc : c < 0
  · go_enter Try.func11, Try.ntmps11
    go_wp2
    go_ret
    refine ⟨?_, rfl⟩
    have ht : (-(c + 1)).tmod n = -(c + 1) % n := Int.tmod_eq_emod_of_nonneg (by omega)
    have hn : (-(c + 1)).tmod n = -((c + 1).tmod n) := Int.neg_tmod _ _
    have hp : pickN c n = -((c + 1).tmod n) := by rw [pickN, if_pos hc, ← ht, hn]
    rw [hp]
    rfl
  · go_enter Try.func11, Try.ntmps11
    go_wp2
    go_ret
    refine ⟨?_, rfl⟩
    have hp : pickN c n = c % n := by rw [pickN, if_neg (by omega)]
    rw [hp]
    rfl

/-- So many bytes 0. -/
def zs (n : Nat) : ByteArray := ⟨(List.replicate n 0).toArray⟩
theorem zs_size (n : Nat) : (zs n).size = n := by simp [zs, ByteArray.size]

theorem info_u8 : (Try.prog.info? 5).map (fun i => (i.zero, i.size, i.bytes)) = some (some (.int .u8 0), 1, 1) := by kernel_rfl

theorem zeros_any (w : World) (n : Int) (n0 : 0 ≤ n) (n1 : n ≤ 256) :
    Calls Try.prog 49 #[.int .i64 n] w fun e w' => e = .returned (.string (zs n.toNat)) ∧ ∃ o, w' = w.alloc o := by
  obtain ⟨m, rfl⟩ := Int.eq_ofNat_of_zero_le n0
  rw [Int.toNat_natCast]
  have hmk := fun w => run_make_row' (P := Try.prog) 76 5 (.int .u8 0) 1 Try.underlying76 info_u8 rfl .i64 .i64 m (by omega) (by omega) w
  have hcv : (convert 76 9 (.slice (some ⟨w.heap.size, 0, none⟩) m m)).run Try.prog (w.alloc (.cells (madeCells #[.int .u8 0] m) 5)) = .ok (.string (zs m)) (w.alloc (.cells (madeCells #[.int .u8 0] m) 5)) := by
    have this := run_convert_bytes_back (P := Try.prog) (w.alloc (.cells (madeCells #[.int .u8 0] m) 5)) 76 9 5 ⟨w.heap.size, 0, none⟩ m (List.replicate m 0) Try.underlying76 Try.underlying5 Try.underlying9 (fun j hj => by
      have hadd : (⟨w.heap.size, 0, none⟩ : Addr).add j = ⟨w.heap.size, j, none⟩ := by unfold Addr.add; split <;> simp_all
      rw [hadd, cell_of_row _ _ _ _ _ _ (heap_alloc_new w _), ← Array.getElem?_toList, toList_madeCells_one]
      simp at hj
      simp [hj])
    rw [List.length_replicate] at this
    exact this
  go_enter Try.func49, Try.ntmps49
  go_wp2
  go_ret
  exact ⟨rfl, _, rfl⟩
end Go.Proofs.Ytcbindgpbeaebaa
