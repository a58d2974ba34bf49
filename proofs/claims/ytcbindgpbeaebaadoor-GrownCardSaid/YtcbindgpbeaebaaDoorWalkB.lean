import Derived.Test.YtcbindgpbeaebaaDoorMem
import Derived.Deep.RegionLaw
namespace Go.Proofs.YtcbindgpbeaebaaDoor
open Go.RowKit Go.Deep
attribute [local go_sem ↓] Go.wp_at_zero Go.wp_at_succ

/-- A block's bytes, with bytes 0 behind. -/
def pad (s : ByteArray) : ByteArray := s ++ zs (256 - s.size)

theorem Dk.changes_safe (d : Dk) : d.changes.2.safe = d.safe := by unfold Dk.changes; split <;> (try split) <;> rfl
theorem Dk.changes_cap (d : Dk) : d.changes.2.cap = d.cap := by unfold Dk.changes; split <;> (try split) <;> rfl
theorem Dk.changes_late (d : Dk) : d.changes.2.late = d.late := by unfold Dk.changes; split <;> (try split) <;> rfl

/-- (*Disk).Write, of no more than a block. -/
def Dk.write (d : Dk) (a : Nat) (s : ByteArray) : Bool × Dk :=
  if d.changes.1 then (true, { d.changes.2 with late := d.late ++ [(a, pad s)] }) else (false, d.changes.2)

theorem info_write : (Tryd.prog.info? 154).map (fun i => (i.zero, i.size, i.bytes)) = some (some (.agg #[.int .i64 0, .string ByteArray.empty]), 2, 24) := by kernel_rfl

theorem write_end {w1 w2 : World} {bd bs : Nat} {lv : Value} {d : Dk} {o p : Obj} {gg cap : Nat} {k : Nat} {s : ByteArray} (h1 : DAt w1 bd bs lv d)
    (hown1 : w2.ownsRow 0 154 2 (.slice (some ⟨gg, 0, none⟩) (d.late.length + 1) cap) (d.late.length + 1) (flat d.late ++ [.int .i64 (k : Int), .string s]))
    (hgrow : ((w1.alloc o).alloc p).drew.grownBy w2 lv.ownBlock) (hat : lv.ownBlock = some gg ∨ gg = w1.heap.size + 2) :
    DAt (w2.setCell ⟨bd, 1, none⟩ (.slice (some ⟨gg, 0, none⟩) (d.late.length + 1) cap)) bd bs (.slice (some ⟨gg, 0, none⟩) (d.late.length + 1) cap) { d with late := d.late ++ [(k, s)] } ∧
      DStep bd bs lv (.slice (some ⟨gg, 0, none⟩) (d.late.length + 1) cap) w1 (w2.setCell ⟨bd, 1, none⟩ (.slice (some ⟨gg, 0, none⟩) (d.late.length + 1) cap)) := by
  have h3 := ((h1.alloc o).alloc p).drew
  have e3 : ((w1.alloc o).alloc p).drew.heap.size = w1.heap.size + 2 := by
    show ((w1.alloc o).alloc p).heap.size = _
    simp
  have ld := h1.ltd
  have ls := h1.lts
  have gd : gg ≠ bd := by
    rcases hat with e | e
    · exact fun e' => h1.nd (e' ▸ e)
    · omega
  have gs : gg ≠ bs := by
    rcases hat with e | e
    · exact fun e' => h1.ns (e' ▸ e)
    · omega
  refine ⟨⟨?_, ?_, ?_, h1.ne, ?_, ?_⟩, ?_⟩
  · rw [heap_setCell_same w2 bd 1 (dcells bs lv d) 75 _ ((hgrow.block bd (by omega) (Ne.symm h1.nd)).trans h3.own)]
    simp [dcells]
  · refine ownsRow_setOther (ownsRow_kept h3.safe fun g hg => ?_) _ (by simp [Value.ownBlock]; exact Ne.symm h1.ne) _
    have : bs = g := by simpa [Value.ownBlock] using hg
    subst this
    exact hgrow.block bs (by omega) (Ne.symm h1.ns)
  · have hf : flat (d.late ++ [(k, s)]) = flat d.late ++ [.int .i64 (k : Int), .string s] := by rw [flat_app]; rfl
    show World.ownsRow _ _ _ _ _ (d.late ++ [(k, s)]).length (flat (d.late ++ [(k, s)]))
    rw [hf, List.length_append]
    exact ownsRow_setOther hown1 _ (by simp [Value.ownBlock, gd]) _
  · simp [Value.ownBlock, gd]
  · simp [Value.ownBlock, gs]
  · refine ⟨hgrow.os, hgrow.tape, hgrow.output, ?_, ?_, ?_⟩
    · have := hgrow.size
      rw [e3] at this
      simp [World.setCell]; omega
    · intro q hq a b c
      rw [Below.heap_setCell _ _ _ _ a, hgrow.block q (by omega) (Ne.symm c)]
      show ((w1.alloc o).alloc p).heap[q]? = _
      rw [Below.heap_alloc _ _ _ (by simp; omega), Below.heap_alloc _ _ _ hq]
    · intro g hg
      have : gg = g := by simpa [Value.ownBlock] using hg
      subst this
      rcases hat with e | e
      · exact .inl e
      · exact .inr (by omega)

set_option maxRecDepth 100000 in
set_option maxHeartbeats 3200000 in
theorem write_any (w : World) (bd bs : Nat) (lv : Value) (d : Dk) (a : Int) (s : ByteArray) (h : DAt w bd bs lv d) (ok : d.Ok) (a0 : 0 ≤ a) (a1 : a < d.safe.length) (hs : s.size ≤ 256) (hl : d.late.length ≤ 1000000) :
    Calls Tryd.prog 96 #[.pointer (some ⟨bd, 0, none⟩), .int .i64 a, .string s] w fun e w' => ∃ lv', e = .returned (.bool (d.write a.toNat s).1) ∧ DAt w' bd bs lv' (d.write a.toNat s).2 ∧ DStep bd bs lv lv' w w' := by
  obtain ⟨k, rfl⟩ := Int.eq_ofNat_of_zero_le a0
  rw [Int.toNat_natCast]
  have hn := ok.n
  cases hc : d.changes.1 with
  | false =>
    have HC := hide hc
    clear hc
    go_enter Tryd.func96, Tryd.ntmps96
    go_wp2_with fail
    refine (changes_any w bd bs lv d h ok).mono ?_
    rintro e w1 ⟨rfl, h1, st, hz⟩
    rw [unhide HC]
    go_wp2_with fail
    go_ret
    exact ⟨lv, by simp [Dk.write, unhide HC], by simpa [Dk.write, unhide HC] using h1, st⟩
  | true =>
    have HC := hide hc
    clear hc
    go_enter Tryd.func96, Tryd.ntmps96
    go_wp2_with fail
    refine (changes_any w bd bs lv d h ok).mono ?_
    rintro e w1 ⟨rfl, h1, st, hz⟩
    rw [unhide HC]
    have c0 := h1.c0
    rw [Dk.changes_safe, Dk.changes_cap] at c0
    have c1 := h1.c1
    have z1 := h1.fz 1
    have lt1 := h1.ltd
    have hown := h1.late
    rw [Dk.changes_late] at hown
    obtain ⟨i0, hi0, hz0, hz1, hz2⟩ := info_parts info_write
    have s0 : (0 : Int) ≤ (s.size : Int) := Int.natCast_nonneg _
    have s1 : (s.size : Int) ≤ 256 := by omega
    have nn := World.new_ne w1 _ c1
    have hsz : ¬ 9223372036854775807 < s.size + (zs (256 - s.size)).size := by rw [zs_size]; omega
    have hwr : IntKind.i64.wrap (256 - (s.size : Int)) = 256 - (s.size : Int) := by rw [IntKind.wrap_i64]; omega
    go_wp2_with fail
    clear hz
    go_region_law ((first
        | (refine step_append_lies _ (by rfl) _ _ _ (by rfl) 0 154 i0 _ 2 24 Tryd.underlying73 hi0 hz0 hz1 hz2 rfl (by omega) lv d.late.length (flat d.late) (by rfl) ((((hown.alloc _).alloc _)).drew)
            ⟨w1.heap.size + 1, 0, none⟩ 1 1 [.int .i64 (k : Int), .string (s ++ zs (256 - s.size))] (by rfl) (by rfl) (World.news_of_block (cs := #[.int .i64 (k : Int), .string (s ++ zs (256 - s.size))]) (t := 154) (fr := (0, 0)) (heap_two _ _ _)) (by simp [Value.oneCell'])
            (by omega) (by simp [maxLen]; omega) (by omega) (by omega) (w1.heap.size + 2) (by simp) ?_
           intro gg cap w2 hown1 hgrow hat hlt
           have cw : w2.cell? ⟨bd, 1, none⟩ = some lv := (hgrow.cell_far _ (by simp; omega) (Ne.symm h1.nd)).trans ((h1.alloc _).alloc _).drew.c1
           have zw : w2.frozen? ⟨bd, 1, none⟩ = false := (hgrow.frozen_far _ (by simp; omega) (Ne.symm h1.nd)).trans (((h1.alloc _).alloc _).drew.fz 1))
        | (go_simp; go_at_call 114; refine (zeros_any _ _ ?_ ?_).mono ?_; (· omega); (· omega); rintro e w' ⟨rfl, o, rfl⟩)))
    all_goals
      go_wp2
      go_ret
      have hE := write_end (k := k) (s := s ++ zs (256 - s.size)) (gg := gg) (cap := cap) h1 (by rw [Dk.changes_late]; exact hown1) hgrow hat
      rw [Dk.changes_late] at hE
      exact ⟨_, by simp [Dk.write, unhide HC], by simpa [Dk.write, unhide HC, pad] using hE.1, st.trans hE.2⟩
end Go.Proofs.YtcbindgpbeaebaaDoor
