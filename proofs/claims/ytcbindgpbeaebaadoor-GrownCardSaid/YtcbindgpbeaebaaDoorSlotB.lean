import Derived.Test.YtcbindgpbeaebaaDoorSlotA
namespace Go.Proofs.YtcbindgpbeaebaaDoor
open Go.RowKit Go.Deep
attribute [local go_sem ↓] Go.wp_at_zero Go.wp_at_succ

set_option maxRecDepth 100000 in
set_option maxHeartbeats 3200000 in
theorem readSlots_dead (w : World) (bl bd bs : Nat) (pv lv : Value) (ps : List (Nat × ByteArray)) (br : Bool) (d : Dk) (hl : LAt w bl bd pv ps br) (h : DAt w bd bs lv d) (hn : d.safe.length ≤ 4096) (hll : d.late.length ≤ 1000000) (hp : ps.length ≤ 80)
    (hg : getL d ps br ((0 : Nat) : Int) = (⟨#[]⟩, 9)) :
    Calls Tryd.prog 60 #[.pointer (some ⟨bl, 0, none⟩)] w fun e w' => e = .returned (.tuple #[.pointer none, .int .i64 9]) ∧ Below w.heap.size w w' := by
  have HG := hide hg
  clear hg
  go_enter Tryd.func60, Tryd.ntmps60
  go_wp2_with fail
  go_loopw [12] (fun i wr => i = .int .i64 0 ∧ Below w.heap.size w wr) (fun _ _ => 0)
  case atStart => exact ⟨rfl, (Below.refl _ w).alloc (Nat.le_refl _) _⟩
  case round =>
    obtain ⟨rfl, hb⟩ := hrel
    have hlb := hl.below hb
    have hdb := h.below hb
    go_wp2_with fail
    refine (readSlot_dead wr bl bd bs pv lv ps br d 0 hlb hdb hn hll hp (by omega) (unhide HG)).mono ?_
    rintro e w1 ⟨rfl, hb1⟩
    go_wp2_with fail
    go_ret2
    exact ⟨rfl, hb.trans (hb1.mono hb.size)⟩

/-- A base in memory. -/
structure BAt (w : World) (bb bl : Nat) (bk : Bool) : Prop where
  own : w.heap[bb]? = some (.cells #[.pointer (some ⟨bl, 0, none⟩), .bool bk] 80 (0, 0))
theorem BAt.lt {w : World} {bb bl : Nat} {bk : Bool} (h : BAt w bb bl bk) : bb < w.heap.size := lt_of_heap h.own
theorem BAt.c0 {w : World} {bb bl : Nat} {bk : Bool} (h : BAt w bb bl bk) : w.cell? ⟨bb, 0, none⟩ = some (.pointer (some ⟨bl, 0, none⟩)) := by rw [cell_of_row w bb 0 _ _ _ h.own]; rfl
theorem BAt.c1 {w : World} {bb bl : Nat} {bk : Bool} (h : BAt w bb bl bk) : w.cell? ⟨bb, 1, none⟩ = some (.bool bk) := by rw [cell_of_row w bb 1 _ _ _ h.own]; rfl
theorem BAt.fz {w : World} {bb bl : Nat} {bk : Bool} (h : BAt w bb bl bk) (i : Nat) : w.frozen? ⟨bb, i, none⟩ = false := frozen_of_row w bb i _ _ h.own
theorem BAt.kept {w w' : World} {bb bl : Nat} {bk : Bool} (h : BAt w bb bl bk) (hk : w'.heap[bb]? = w.heap[bb]?) : BAt w' bb bl bk := ⟨hk.trans h.own⟩

theorem load_broken (w : World) (bb bl : Nat) (h : BAt w bb bl true) :
    Calls Tryd.prog 35 #[.pointer (some ⟨bb, 0, none⟩)] w fun e w' => e = .returned (.tuple #[.pointer none, .int .i64 9]) ∧ w' = w := by
  have c1 := h.c1
  go_enter Tryd.func35, Tryd.ntmps35
  go_wp2_with fail
  go_ret2
  exact ⟨rfl, rfl⟩
theorem load_dead (w : World) (bb bl bd bs : Nat) (pv lv : Value) (ps : List (Nat × ByteArray)) (br : Bool) (d : Dk) (hB : BAt w bb bl false) (hl : LAt w bl bd pv ps br) (h : DAt w bd bs lv d) (hn : d.safe.length ≤ 4096) (hll : d.late.length ≤ 1000000) (hp : ps.length ≤ 80)
    (hg : getL d ps br ((0 : Nat) : Int) = (⟨#[]⟩, 9)) :
    Calls Tryd.prog 35 #[.pointer (some ⟨bb, 0, none⟩)] w fun e w' => e = .returned (.tuple #[.pointer none, .int .i64 9]) ∧ Below w.heap.size w w' := by
  have c0 := hB.c0
  have c1 := hB.c1
  have HG := hide hg
  clear hg
  go_enter Tryd.func35, Tryd.ntmps35
  go_wp2_with fail
  refine (readSlots_dead w bl bd bs pv lv ps br d hl h hn hll hp (unhide HG)).mono ?_
  rintro e w1 ⟨rfl, hb1⟩
  go_wp2_with fail
  go_ret2
  exact ⟨rfl, hb1⟩
theorem load_ok (w : World) (bb bl bd bs : Nat) (pv lv : Value) (ps : List (Nat × ByteArray)) (br : Bool) (d : Dk) (V : Nat → ByteArray) (hB : BAt w bb bl false) (hl : LAt w bl bd pv ps br) (h : DAt w bd bs lv d) (hn : d.safe.length ≤ 4096) (hll : d.late.length ≤ 1000000) (hp : ps.length ≤ 80)
    (hV : ∀ i, i < 120 → getL d ps br ((i : Nat) : Int) = (V i, 0) ∧ (V i).size = 256) :
    Calls Tryd.prog 35 #[.pointer (some ⟨bb, 0, none⟩)] w (LoadPost w (loadM V 60)) := by
  have c0 := hB.c0
  have c1 := hB.c1
  have HV := hide hV
  clear hV
  go_enter Tryd.func35, Tryd.ntmps35
  go_wp2_with fail
  refine (readSlots_ok w bl bd bs pv lv ps br d V hl h hn hll hp (unhide HV)).mono ?_
  rintro e w1 ⟨bm, ev, rfl, hM, hb1⟩
  go_wp2_with fail
  go_ret2
  exact ⟨bm, ev, rfl, hM, hb1⟩

/-! ### A slot is filled, and cleared -/
theorem clearSlot_any (w : World) (bl bd bs : Nat) (pv lv : Value) (ps : List (Nat × ByteArray)) (br : Bool) (d : Dk) (slot : Nat) (hl : LAt w bl bd pv ps br) (h : DAt w bd bs lv d) (hn : d.safe.length ≤ 4096) (hp : ps.length ≤ 80) (hs : slot < 60) :
    Calls Tryd.prog 101 #[.pointer (some ⟨bl, 0, none⟩), .int .i64 (slot : Int)] w fun e w' => ∃ pv', e = .returned (.int .i64 (putL d.safe.length ps ((2 * slot : Nat) : Int) ⟨#[]⟩).1) ∧ LAt w' bl bd pv' (putL d.safe.length ps ((2 * slot : Nat) : Int) ⟨#[]⟩).2 br ∧ DStep bl bl pv pv' w w' := by
  have e0 : (slot : Int) * 2 = ((2 * slot : Nat) : Int) := by omega
  go_enter Tryd.func101, Tryd.ntmps101
  go_wp2_with fail
  refine (put_any w bl bd bs pv lv ps br d ((2 * slot : Nat) : Int) ⟨#[]⟩ hl h hn hp).mono ?_
  rintro e w1 ⟨pv1, rfl, h1, st⟩
  go_wp2_with fail
  go_ret
  exact ⟨pv1, rfl, h1, st⟩
end Go.Proofs.YtcbindgpbeaebaaDoor
