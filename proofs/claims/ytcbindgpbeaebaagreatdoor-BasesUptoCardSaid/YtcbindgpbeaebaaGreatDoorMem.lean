import Derived.Test.YtcbindgpbeaebaaGreatDoorProg
import Derived.Tactics
import Derived.Tactics2
import Derived.WalkKit
import Derived.WalkSpells
import Derived.StillTactics
import Derived.OwnWalk
import Derived.Laws.Pointers
import Derived.Deep.RegionHeld3
import Derived.Deep.AppendLies
import Derived.Deep.DrawnRows
import Derived.KernelRfl
import Derived.Defers
import Derived.Deep.OwnRows
import Derived.Deep.RegionLaw
namespace Go.Proofs.YtcbindgpbeaebaaGreatDoor
open Go.RowKit

/-- A disk, as plain data. -/
structure Dk where
  safe : List ByteArray
  late : List (Nat × ByteArray)
  wait : Int
  life : Int
  failed : Int
  cap : Nat

/-- Pairs of a number and a text, cell by cell. -/
def flat : List (Nat × ByteArray) → List Value
  | [] => []
  | (a, s) :: r => .int .i64 (a : Int) :: .string s :: flat r

theorem flat_len : ∀ l : List (Nat × ByteArray), (flat l).length = l.length * 2
  | [] => rfl
  | (a, s) :: r => by simp [flat, flat_len r]; omega
theorem flat_app : ∀ l m : List (Nat × ByteArray), flat (l ++ m) = flat l ++ flat m
  | [], m => rfl
  | (a, s) :: r, m => by simp [flat, flat_app r m]
theorem flat_at : ∀ (l : List (Nat × ByteArray)) (i : Nat) (p : Nat × ByteArray), l[i]? = some p → (flat l)[i * 2]? = some (.int .i64 (p.1 : Int)) ∧ (flat l)[i * 2 + 1]? = some (.string p.2)
  | [], i, p, h => by simp at h
  | (a, s) :: r, 0, p, h => by simp at h; subst h; simp [flat]
  | (a, s) :: r, i + 1, p, h => by
      have := flat_at r i p (by simpa using h)
      rw [show (i + 1) * 2 = i * 2 + 1 + 1 by omega]
      simpa [flat] using this

/-- The cells of a disk's own block. -/
def dcells (bs : Nat) (lv : Value) (d : Dk) : Array Value :=
  #[.slice (some ⟨bs, 0, none⟩) d.safe.length d.cap, lv, .int .i64 d.wait, .int .i64 d.life, .int .i64 d.failed]

/-- A disk in memory: its own block, that of what is sure, that of what is late. -/
structure DAt (w : World) (bd bs : Nat) (lv : Value) (d : Dk) : Prop where
  own : w.heap[bd]? = some (.cells (dcells bs lv d) 84 (0, 0))
  safe : w.ownsRow 0 9 1 (.slice (some ⟨bs, 0, none⟩) d.safe.length d.cap) d.safe.length (d.safe.map Value.string)
  late : w.ownsRow 0 137 2 lv d.late.length (flat d.late)
  ne : bd ≠ bs
  nd : lv.ownBlock ≠ some bd
  ns : lv.ownBlock ≠ some bs

/-- What becomes of the world in a call of a disk. -/
structure DStep (bd bs : Nat) (lv lv' : Value) (w w' : World) : Prop where
  os : w'.os = w.os
  tape : w'.tape = w.tape
  output : w'.output = w.output
  size : w.heap.size ≤ w'.heap.size
  block : ∀ k, k < w.heap.size → k ≠ bd → k ≠ bs → lv.ownBlock ≠ some k → w'.heap[k]? = w.heap[k]?
  fresh : ∀ g, lv'.ownBlock = some g → lv.ownBlock = some g ∨ w.heap.size ≤ g

theorem DStep.refl (bd bs : Nat) (lv : Value) (w : World) : DStep bd bs lv lv w w :=
  ⟨rfl, rfl, rfl, Nat.le_refl _, fun _ _ _ _ _ => rfl, fun _ h => .inl h⟩
theorem DStep.trans {bd bs : Nat} {lv lv' lv'' : Value} {w w' w'' : World} (h : DStep bd bs lv lv' w w') (k : DStep bd bs lv' lv'' w' w'') : DStep bd bs lv lv'' w w'' := by
  refine ⟨k.os.trans h.os, k.tape.trans h.tape, k.output.trans h.output, Nat.le_trans h.size k.size, fun i hi h1 h2 h3 => ?_, fun g hg => ?_⟩
  · rw [k.block i (Nat.lt_of_lt_of_le hi h.size) h1 h2, h.block i hi h1 h2 h3]
    intro e
    rcases h.fresh i e with e | e
    · exact h3 e
    · omega
  · rcases k.fresh g hg with e | e
    · exact h.fresh g e
    · exact .inr (Nat.le_trans h.size e)
theorem lt_of_heap {w : World} {b : Nat} {o : Obj} (h : w.heap[b]? = some o) : b < w.heap.size := by
  rcases Nat.lt_or_ge b w.heap.size with hlt | hge
  · exact hlt
  · rw [Array.getElem?_eq_none hge] at h; cases h
theorem DStep.drew {bd bs : Nat} {lv lv' : Value} {w w' : World} (h : DStep bd bs lv lv' w w') : DStep bd bs lv lv' w w'.drew := ⟨h.os, h.tape, h.output, h.size, h.block, h.fresh⟩
theorem DStep.alloc {bd bs : Nat} {lv lv' : Value} {w w' : World} (h : DStep bd bs lv lv' w w') (o : Obj) : DStep bd bs lv lv' w (w'.alloc o) :=
  ⟨h.os, h.tape, h.output, by simp; have := h.size; omega, fun k hk h1 h2 h3 => (Below.heap_alloc _ _ _ (Nat.lt_of_lt_of_le hk h.size)).trans (h.block k hk h1 h2 h3), h.fresh⟩
theorem DStep.setOwn {bd bs : Nat} {lv lv' : Value} {w w' : World} (h : DStep bd bs lv lv' w w') (o : Nat) (u : Value) : DStep bd bs lv lv' w (w'.setCell ⟨bd, o, none⟩ u) :=
  ⟨h.os, h.tape, h.output, by simp [World.setCell]; exact h.size, fun k hk h1 h2 h3 => (Below.heap_setCell _ _ _ _ h1).trans (h.block k hk h1 h2 h3), h.fresh⟩
theorem DStep.setSafe {bd bs : Nat} {lv lv' : Value} {w w' : World} (h : DStep bd bs lv lv' w w') (o : Nat) (u : Value) : DStep bd bs lv lv' w (w'.setCell ⟨bs, o, none⟩ u) :=
  ⟨h.os, h.tape, h.output, by simp [World.setCell]; exact h.size, fun k hk h1 h2 h3 => (Below.heap_setCell _ _ _ _ h2).trans (h.block k hk h1 h2 h3), h.fresh⟩

theorem cell_set_far (w : World) (a b : Addr) (v : Value) (h : ¬ b.block = a.block) : (w.setCell a v).drew.cell? b = w.cell? b :=
  World.cell?_of_block (w := w) (w' := (w.setCell a v).drew) (Below.heap_setCell w a v b.block h)
theorem heap_two' (w : World) (o p : Obj) : ((w.alloc o).alloc p).heap[w.heap.size + 1]? = some p := by
  have h := heap_alloc_new (w.alloc o) p
  have e : (w.alloc o).heap.size = w.heap.size + 1 := by simp
  rw [e] at h
  exact h
theorem heap_two (w : World) (o p : Obj) : ((w.alloc o).alloc p).drew.heap[w.heap.size + 1]? = some p := by
  have h := heap_alloc_new (w.alloc o) p
  have e : (w.alloc o).heap.size = w.heap.size + 1 := by simp
  rw [e] at h
  exact h
section
variable {w : World} {bd bs : Nat} {lv : Value} {d : Dk}
theorem DAt.cell (h : DAt w bd bs lv d) (i : Nat) : w.cell? ⟨bd, i, none⟩ = (dcells bs lv d)[i]? := cell_of_row w bd i _ _ _ h.own
theorem DAt.c0 (h : DAt w bd bs lv d) : w.cell? ⟨bd, 0, none⟩ = some (.slice (some ⟨bs, 0, none⟩) d.safe.length d.cap) := by rw [h.cell]; rfl
theorem DAt.c1 (h : DAt w bd bs lv d) : w.cell? ⟨bd, 1, none⟩ = some lv := by rw [h.cell]; rfl
theorem DAt.c2 (h : DAt w bd bs lv d) : w.cell? ⟨bd, 2, none⟩ = some (.int .i64 d.wait) := by rw [h.cell]; rfl
theorem DAt.c3 (h : DAt w bd bs lv d) : w.cell? ⟨bd, 3, none⟩ = some (.int .i64 d.life) := by rw [h.cell]; rfl
theorem DAt.c4 (h : DAt w bd bs lv d) : w.cell? ⟨bd, 4, none⟩ = some (.int .i64 d.failed) := by rw [h.cell]; rfl
theorem DAt.fz (h : DAt w bd bs lv d) (i : Nat) : w.frozen? ⟨bd, i, none⟩ = false := frozen_of_row w bd i _ _ h.own
theorem DAt.sb (h : DAt w bd bs lv d) : ∃ cur, w.heap[bs]? = some (.cells cur 9 (0, 0)) ∧ d.safe.length ≤ d.cap ∧ d.cap ≤ maxLen ∧ cur.size = d.cap ∧ cur.toList.take d.safe.length = d.safe.map Value.string := by
  rcases h.safe.2 with ⟨e, _⟩ | ⟨g, cap, cur, e, _, hg, h1, h2, h3, h4⟩
  · cases e
  · simp only [Value.slice.injEq, Option.some.injEq, Addr.mk.injEq, and_true] at e
    obtain ⟨rfl, _, rfl⟩ := e
    exact ⟨cur, hg, h1, h2, by simpa using h3, by simpa using h4⟩
theorem DAt.fs (h : DAt w bd bs lv d) (i : Nat) : w.frozen? ⟨bs, i, none⟩ = false := by
  obtain ⟨cur, hg, _⟩ := h.sb
  exact frozen_of_row w bs i _ _ hg
theorem DAt.sc (h : DAt w bd bs lv d) (i : Nat) (s : ByteArray) (hi : d.safe[i]? = some s) : w.cell? ⟨bs, i, none⟩ = some (.string s) := by
  have hadd : (⟨bs, 0, none⟩ : Addr).add i = ⟨bs, i, none⟩ := by unfold Addr.add; split <;> simp_all
  rw [← hadd]
  exact h.safe.cells (g := bs) rfl i _ (by simp [hi])
theorem DAt.ltd (h : DAt w bd bs lv d) : bd < w.heap.size := lt_of_heap h.own
theorem DAt.lts (h : DAt w bd bs lv d) : bs < w.heap.size := (h.safe.lt bs rfl).2
theorem DAt.ltl (h : DAt w bd bs lv d) : ∀ k, lv.ownBlock = some k → k < w.heap.size := fun k hk => (h.late.lt k hk).2

/-- The late writes, cell by cell. -/
theorem DAt.lc (h : DAt w bd bs lv d) (i : Nat) (p : Nat × ByteArray) (hi : d.late[i]? = some p) :
    ∃ g cap, lv = .slice (some ⟨g, 0, none⟩) d.late.length cap ∧ w.cell? ⟨g, i * 2, none⟩ = some (.int .i64 (p.1 : Int)) ∧ w.cell? ⟨g, i * 2 + 1, none⟩ = some (.string p.2) := by
  have hl : i < d.late.length := by
    rcases Nat.lt_or_ge i d.late.length with hlt | hge
    · exact hlt
    · rw [List.getElem?_eq_none hge] at hi; cases hi
  obtain ⟨g, cap, hv, _, _⟩ := h.late.form (by omega)
  have hc := h.late.cells (g := g) (by rw [hv]; rfl)
  have hf := flat_at d.late i p hi
  have hadd : ∀ j, (⟨g, 0, none⟩ : Addr).add j = ⟨g, j, none⟩ := fun j => by unfold Addr.add; split <;> simp_all
  refine ⟨g, cap, hv, ?_, ?_⟩
  · rw [← hadd]; exact hc _ _ hf.1
  · rw [← hadd]; exact hc _ _ hf.2

/-- Whatever turns none of the disk's blocks leaves it. -/
theorem ownsRow_kept {w w' : World} {b : Nat} {e : TypeId} {size : Nat} {v : Value} {n : Nat} {xs : List Value} (h : w.ownsRow b e size v n xs) (hk : ∀ g, v.ownBlock = some g → w'.heap[g]? = w.heap[g]?) : w'.ownsRow b e size v n xs := by
  obtain ⟨h1, h2⟩ := h
  refine ⟨h1, ?_⟩
  rcases h2 with h2 | ⟨g, cap, cur, hv, hb, hg, hr⟩
  · exact .inl h2
  · exact .inr ⟨g, cap, cur, hv, hb, (hk g (by rw [hv]; rfl)).trans hg, hr⟩
theorem DAt.kept {w' : World} (h : DAt w bd bs lv d) (hk : ∀ k, k < w.heap.size → (k = bd ∨ k = bs ∨ lv.ownBlock = some k) → w'.heap[k]? = w.heap[k]?) : DAt w' bd bs lv d :=
  ⟨(hk bd h.ltd (.inl rfl)).trans h.own, ownsRow_kept h.safe fun g hg => hk g (h.safe.lt g hg).2 (.inr (.inl (by simpa [Value.ownBlock] using hg.symm))), ownsRow_kept h.late fun g hg => hk g (h.ltl g hg) (.inr (.inr hg)), h.ne, h.nd, h.ns⟩
theorem DAt.drew (h : DAt w bd bs lv d) : DAt w.drew bd bs lv d := h.kept fun _ _ _ => rfl
theorem DAt.alloc (h : DAt w bd bs lv d) (o : Obj) : DAt (w.alloc o) bd bs lv d := h.kept fun _ hk _ => Below.heap_alloc _ _ _ hk

theorem ownsRow_setOther {e : TypeId} {size : Nat} {v : Value} {n : Nat} {xs : List Value} (h : w.ownsRow 0 e size v n xs) (a : Addr) (hne : v.ownBlock ≠ some a.block) (u : Value) : (w.setCell a u).ownsRow 0 e size v n xs := by
  obtain ⟨h1, h2⟩ := h
  refine ⟨h1, ?_⟩
  rcases h2 with h2 | ⟨g, cap, cur, hv, hb, hg, hr⟩
  · exact .inl h2
  · refine .inr ⟨g, cap, cur, hv, hb, ?_, hr⟩
    rw [Below.heap_setCell _ _ _ _ (fun e => hne (by rw [hv]; simp [Value.ownBlock, e]))]
    exact hg

/-- A field of the disk is written. -/
theorem DAt.setField (h : DAt w bd bs lv d) (i : Nat) (u : Value) (d' : Dk) (hs : d'.safe = d.safe) (hcp : d'.cap = d.cap) (hl : d'.late = d.late) (hc : (dcells bs lv d).setIfInBounds i u = dcells bs lv d') : DAt (w.setCell ⟨bd, i, none⟩ u) bd bs lv d' := by
  refine ⟨?_, ?_, ?_, h.ne, h.nd, h.ns⟩
  · rw [heap_setCell_same w bd i _ _ u h.own, hc]
  · rw [hs, hcp]; exact ownsRow_setOther h.safe _ (by simp [Value.ownBlock]; exact Ne.symm h.ne) u
  · rw [hl]; exact ownsRow_setOther h.late _ h.nd u
theorem DAt.setWait (h : DAt w bd bs lv d) (x : Int) : DAt (w.setCell ⟨bd, 2, none⟩ (.int .i64 x)) bd bs lv { d with wait := x } := h.setField 2 _ _ rfl rfl rfl (by simp [dcells])
theorem DAt.setLife (h : DAt w bd bs lv d) (x : Int) : DAt (w.setCell ⟨bd, 3, none⟩ (.int .i64 x)) bd bs lv { d with life := x } := h.setField 3 _ _ rfl rfl rfl (by simp [dcells])
theorem DAt.setFailed (h : DAt w bd bs lv d) (x : Int) : DAt (w.setCell ⟨bd, 4, none⟩ (.int .i64 x)) bd bs lv { d with failed := x } := h.setField 4 _ _ rfl rfl rfl (by simp [dcells])
/-- A block that is sure is written. -/
theorem DAt.setSafe (h : DAt w bd bs lv d) (i : Nat) (s : ByteArray) : DAt (w.setCell ⟨bs, i, none⟩ (.string s)) bd bs lv { d with safe := d.safe.set i s } := by
  refine ⟨?_, ?_, ownsRow_setOther h.late _ h.ns _, h.ne, h.nd, h.ns⟩
  · rw [Below.heap_setCell _ _ _ _ h.ne]; simp [dcells]; exact h.own
  · obtain ⟨cur, hg, h1, h2, h3, h4⟩ := h.sb
    refine ⟨by simp, .inr ⟨bs, d.cap, cur.setIfInBounds i (.string s), rfl, Nat.zero_le _, heap_setCell_same w bs i cur _ _ hg, by simpa using h1, h2, by simpa using h3, ?_⟩⟩
    simp only [Nat.mul_one, List.length_set, Array.toList_setIfInBounds, List.take_set, h4, List.map_set]
/-- The list of late writes is another. -/
theorem DAt.setLate (h : DAt w bd bs lv d) (lv' : Value) (l : List (Nat × ByteArray)) (ho : w.ownsRow 0 137 2 lv' l.length (flat l)) (nd : lv'.ownBlock ≠ some bd) (ns : lv'.ownBlock ≠ some bs) : DAt (w.setCell ⟨bd, 1, none⟩ lv') bd bs lv' { d with late := l } := by
  refine ⟨?_, ?_, ownsRow_setOther ho _ nd _, h.ne, nd, ns⟩
  · rw [heap_setCell_same w bd 1 _ _ _ h.own]; simp [dcells]
  · exact ownsRow_setOther h.safe _ (by simp [Value.ownBlock]; exact Ne.symm h.ne) _
end
end Go.Proofs.YtcbindgpbeaebaaGreatDoor

namespace Go.Proofs.YtcbindgpbeaebaaGreatDoor
open Go.RowKit Go.Deep

theorem hide {p : Prop} (h : p) : Hid p := h
theorem unhide {p : Prop} (h : Hid p) : p := h

/-- (*Disk).changes -/
def Dk.changes (d : Dk) : Bool × Dk :=
  if d.life = 0 then (false, { d with failed := d.failed + 1 })
  else if d.wait = 0 then (false, { d with failed := d.failed + 1, wait := -1 })
  else (true, { d with wait := if 0 < d.wait then d.wait - 1 else d.wait, life := if 0 < d.life then d.life - 1 else d.life })

/-- The numbers of a disk lie within their bounds. -/
structure Dk.Ok (d : Dk) : Prop where
  w0 : -1 ≤ d.wait
  w1 : d.wait ≤ 9223372036854775807
  l0 : -1 ≤ d.life
  l1 : d.life ≤ 9223372036854775807
  f0 : 0 ≤ d.failed
  f1 : d.failed ≤ 9223372036854775806
  n : d.safe.length ≤ 4096
  lt : ∀ p ∈ d.late, p.1 < d.safe.length

set_option maxHeartbeats 1000000 in
theorem changes_any (w : World) (bd bs : Nat) (lv : Value) (d : Dk) (h : DAt w bd bs lv d) (ok : d.Ok) :
    Calls Tryz.prog 182 #[.pointer (some ⟨bd, 0, none⟩)] w fun e w' => e = .returned (.bool d.changes.1) ∧ DAt w' bd bs lv d.changes.2 ∧ DStep bd bs lv lv w w' ∧ w'.heap.size = w.heap.size := by
  obtain ⟨safe, late, wait, life, failed, cap⟩ := d
  obtain ⟨w0, w1, l0, l1, f0, f1, n, _⟩ := ok
  have c2 := h.c2
  have c3 := h.c3
  have c4 := h.c4
  have z2 := h.fz 2
  have z3 := h.fz 3
  have z4 := h.fz 4
  simp only at *
  by_cases hl : life = 0
  · subst hl
    go_enter Tryz.func182, Tryz.ntmps182
    go_wp2
    go_ret
    exact ⟨by simp [Dk.changes], by simpa [Dk.changes] using h.setFailed (failed + 1), (DStep.refl _ _ _ _).setOwn _ _, by simp [World.setCell]⟩
  · by_cases hw : wait = 0
    · subst hw
      go_enter Tryz.func182, Tryz.ntmps182
      go_wp2
      go_ret
      exact ⟨by simp [Dk.changes, hl], by simpa [Dk.changes, hl] using (h.setFailed (failed + 1)).setWait (-1), ((DStep.refl _ _ _ _).setOwn _ _).setOwn _ _, by simp [World.setCell]⟩
    · have bl : (life == 0) = false := by simpa using hl
      have bw : (wait == 0) = false := by simpa using hw
      by_cases hw1 : 0 < wait
      · by_cases hl1 : 0 < life
        · have HC : Hid (Dk.changes ⟨safe, late, wait, life, failed, cap⟩ = (true, ⟨safe, late, wait - 1, life - 1, failed, cap⟩)) := by
            show Dk.changes ⟨safe, late, wait, life, failed, cap⟩ = _
            simp [Dk.changes, hl, hw]; omega
          go_enter Tryz.func182, Tryz.ntmps182
          go_wp2
          go_ret
          rw [HC.out]
          exact ⟨rfl, (h.setWait (wait - 1)).setLife (life - 1), ((DStep.refl _ _ _ _).setOwn _ _).setOwn _ _, by simp [World.setCell]⟩
        · have HC : Hid (Dk.changes ⟨safe, late, wait, life, failed, cap⟩ = (true, ⟨safe, late, wait - 1, life, failed, cap⟩)) := by
            show Dk.changes ⟨safe, late, wait, life, failed, cap⟩ = _
            simp [Dk.changes, hl, hw]; omega
          go_enter Tryz.func182, Tryz.ntmps182
          go_wp2
          go_ret
          rw [HC.out]
          exact ⟨rfl, h.setWait (wait - 1), (DStep.refl _ _ _ _).setOwn _ _, by simp [World.setCell]⟩
      · by_cases hl1 : 0 < life
        · have HC : Hid (Dk.changes ⟨safe, late, wait, life, failed, cap⟩ = (true, ⟨safe, late, wait, life - 1, failed, cap⟩)) := by
            show Dk.changes ⟨safe, late, wait, life, failed, cap⟩ = _
            simp [Dk.changes, hl, hw]; omega
          go_enter Tryz.func182, Tryz.ntmps182
          go_wp2
          go_ret
          rw [HC.out]
          exact ⟨rfl, h.setLife (life - 1), (DStep.refl _ _ _ _).setOwn _ _, by simp [World.setCell]⟩
        · have HC : Hid (Dk.changes ⟨safe, late, wait, life, failed, cap⟩ = (true, ⟨safe, late, wait, life, failed, cap⟩)) := by
            show Dk.changes ⟨safe, late, wait, life, failed, cap⟩ = _
            simp [Dk.changes, hl, hw]; omega
          go_enter Tryz.func182, Tryz.ntmps182
          go_wp2
          go_ret
          rw [HC.out]
          exact ⟨rfl, h, DStep.refl _ _ _ _, rfl⟩

theorem dblocks_any (w : World) (bd bs : Nat) (lv : Value) (d : Dk) (h : DAt w bd bs lv d) :
    Calls Tryz.prog 71 #[.pointer (some ⟨bd, 0, none⟩)] w fun e w' => e = .returned (.int .i64 (d.safe.length : Int)) ∧ w' = w := by
  have c0 := h.c0
  go_enter Tryz.func71, Tryz.ntmps71
  go_wp2
  go_ret
  exact ⟨rfl, rfl⟩

theorem dead_any (w : World) (bd bs : Nat) (lv : Value) (d : Dk) (h : DAt w bd bs lv d) :
    Calls Tryz.prog 38 #[.pointer (some ⟨bd, 0, none⟩)] w fun e w' => e = .returned (.bool (d.life == 0)) ∧ w' = w := by
  have c3 := h.c3
  go_enter Tryz.func38, Tryz.ntmps38
  go_wp2
  go_ret
  exact ⟨rfl, rfl⟩

theorem die_any (w : World) (bd bs : Nat) (lv : Value) (d : Dk) (n : Int) (h : DAt w bd bs lv d) (h0 : 0 ≤ n) :
    Calls Tryz.prog 30 #[.pointer (some ⟨bd, 0, none⟩), .int .i64 n] w fun e w' => e = .returned (.tuple #[]) ∧ DAt w' bd bs lv { d with life := n } ∧ DStep bd bs lv lv w w' ∧ w'.heap.size = w.heap.size := by
  have c3 := h.c3
  have z3 := h.fz 3
  go_enter Tryz.func30, Tryz.ntmps30
  go_wp2
  go_end0
  exact ⟨rfl, by simpa using h.setLife n, (DStep.refl _ _ _ _).setOwn _ _, by simp [World.setCell]⟩

/-- gauzekeep.pick -/
def pickN (c n : Int) : Int := (if c < 0 then -(c + 1) else c) % n
theorem pick_any (w : World) (c n : Int) (c0 : -9223372036854775808 ≤ c) (c1 : c ≤ 9223372036854775807) (n0 : 0 < n) (n1 : n ≤ 9223372036854775807) :
    Calls Tryz.prog 31 #[.int .i64 c, .int .i64 n] w fun e w' => e = .returned (.int .i64 (pickN c n)) ∧ w' = w := by
  by_cases hc : c < 0
  · go_enter Tryz.func31, Tryz.ntmps31
    go_wp2
    go_ret
    refine ⟨?_, rfl⟩
    have ht : (-(c + 1)).tmod n = -(c + 1) % n := Int.tmod_eq_emod_of_nonneg (by omega)
    have hn : (-(c + 1)).tmod n = -((c + 1).tmod n) := Int.neg_tmod _ _
    have hp : pickN c n = -((c + 1).tmod n) := by rw [pickN, if_pos hc, ← ht, hn]
    rw [hp]
    rfl
  · go_enter Tryz.func31, Tryz.ntmps31
    go_wp2
    go_ret
    refine ⟨?_, rfl⟩
    have hp : pickN c n = c % n := by rw [pickN, if_neg (by omega)]
    rw [hp]
    rfl

/-- So many bytes 0. -/
def zs (n : Nat) : ByteArray := ⟨(List.replicate n 0).toArray⟩
theorem zs_size (n : Nat) : (zs n).size = n := by simp [zs, ByteArray.size]

theorem info_u8 : (Tryz.prog.info? 5).map (fun i => (i.zero, i.size, i.bytes)) = some (some (.int .u8 0), 1, 1) := by kernel_rfl

theorem zeros_any (w : World) (n : Int) (n0 : 0 ≤ n) (n1 : n ≤ 256) :
    Calls Tryz.prog 208 #[.int .i64 n] w fun e w' => e = .returned (.string (zs n.toNat)) ∧ ∃ o, w' = w.alloc o := by
  obtain ⟨m, rfl⟩ := Int.eq_ofNat_of_zero_le n0
  rw [Int.toNat_natCast]
  have hmk := fun w => run_make_row' (P := Tryz.prog) 207 5 (.int .u8 0) 1 Tryz.underlying207 info_u8 rfl .i64 .i64 m (by omega) (by omega) w
  have hcv : (convert 207 9 (.slice (some ⟨w.heap.size, 0, none⟩) m m)).run Tryz.prog (w.alloc (.cells (madeCells #[.int .u8 0] m) 5)) = .ok (.string (zs m)) (w.alloc (.cells (madeCells #[.int .u8 0] m) 5)) := by
    have this := run_convert_bytes_back (P := Tryz.prog) (w.alloc (.cells (madeCells #[.int .u8 0] m) 5)) 207 9 5 ⟨w.heap.size, 0, none⟩ m (List.replicate m 0) Tryz.underlying207 Tryz.underlying5 Tryz.underlying9 (fun j hj => by
      have hadd : (⟨w.heap.size, 0, none⟩ : Addr).add j = ⟨w.heap.size, j, none⟩ := by unfold Addr.add; split <;> simp_all
      rw [hadd, cell_of_row _ _ _ _ _ _ (heap_alloc_new w _), ← Array.getElem?_toList, toList_madeCells_one]
      simp at hj
      simp [hj])
    rw [List.length_replicate] at this
    exact this
  go_enter Tryz.func208, Tryz.ntmps208
  go_wp2
  go_ret
  exact ⟨rfl, _, rfl⟩
end Go.Proofs.YtcbindgpbeaebaaGreatDoor

namespace Go.Proofs.YtcbindgpbeaebaaGreatDoor
open Go.RowKit Go.Deep
attribute [local go_sem ↓] Go.wp_at_zero Go.wp_at_succ

/-- A block's bytes, with bytes 0 behind. -/
def pad (s : ByteArray) : ByteArray := s ++ zs (256 - s.size)

theorem Dk.changes_safe (d : Dk) : d.changes.2.safe = d.safe := by unfold Dk.changes; split <;> (try split) <;> rfl
theorem Dk.changes_cap (d : Dk) : d.changes.2.cap = d.cap := by unfold Dk.changes; split <;> (try split) <;> rfl
theorem Dk.changes_late (d : Dk) : d.changes.2.late = d.late := by unfold Dk.changes; split <;> (try split) <;> rfl

/-- (*Disk).Write, of no more than a block. -/
def Dk.write (d : Dk) (a : Nat) (s : ByteArray) : Bool × Dk :=
  if d.changes.1 then (true, { d.changes.2 with late := d.late ++ [(a, pad s)] }) else (false, d.changes.2)

theorem info_write : (Tryz.prog.info? 137).map (fun i => (i.zero, i.size, i.bytes)) = some (some (.agg #[.int .i64 0, .string ByteArray.empty]), 2, 24) := by kernel_rfl

theorem write_end {w1 w2 : World} {bd bs : Nat} {lv : Value} {d : Dk} {o p : Obj} {gg cap : Nat} {k : Nat} {s : ByteArray} (h1 : DAt w1 bd bs lv d)
    (hown1 : w2.ownsRow 0 137 2 (.slice (some ⟨gg, 0, none⟩) (d.late.length + 1) cap) (d.late.length + 1) (flat d.late ++ [.int .i64 (k : Int), .string s]))
    (hgrow : ((w1.alloc o).alloc p).drew.grownBy w2 lv.ownBlock) (hat : lv.ownBlock = some gg ∨ gg = w1.heap.size + 2) :
    DAt (w2.setCell ⟨bd, 1, none⟩ (.slice (some ⟨gg, 0, none⟩) (d.late.length + 1) cap)) bd bs (.slice (some ⟨gg, 0, none⟩) (d.late.length + 1) cap) { d with late := d.late ++ [(k, s)] } ∧
      DStep bd bs lv (.slice (some ⟨gg, 0, none⟩) (d.late.length + 1) cap) w1 (w2.setCell ⟨bd, 1, none⟩ (.slice (some ⟨gg, 0, none⟩) (d.late.length + 1) cap)) := by
  have h3 := ((h1.alloc o).alloc p).drew
  have e3 : ((w1.alloc o).alloc p).drew.heap.size = w1.heap.size + 2 := by
    show ((w1.alloc o).alloc p).heap.size = _
    simp
  have ld := h1.ltd
  have ls := h1.lts
  have gd : gg ≠ bd := by
    rcases hat with e | e
    · exact fun e' => h1.nd (e' ▸ e)
    · omega
  have gs : gg ≠ bs := by
    rcases hat with e | e
    · exact fun e' => h1.ns (e' ▸ e)
    · omega
  refine ⟨⟨?_, ?_, ?_, h1.ne, ?_, ?_⟩, ?_⟩
  · rw [heap_setCell_same w2 bd 1 (dcells bs lv d) 84 _ ((hgrow.block bd (by omega) (Ne.symm h1.nd)).trans h3.own)]
    simp [dcells]
  · refine ownsRow_setOther (ownsRow_kept h3.safe fun g hg => ?_) _ (by simp [Value.ownBlock]; exact Ne.symm h1.ne) _
    have : bs = g := by simpa [Value.ownBlock] using hg
    subst this
    exact hgrow.block bs (by omega) (Ne.symm h1.ns)
  · have hf : flat (d.late ++ [(k, s)]) = flat d.late ++ [.int .i64 (k : Int), .string s] := by rw [flat_app]; rfl
    show World.ownsRow _ _ _ _ _ (d.late ++ [(k, s)]).length (flat (d.late ++ [(k, s)]))
    rw [hf, List.length_append]
    exact ownsRow_setOther hown1 _ (by simp [Value.ownBlock, gd]) _
  · simp [Value.ownBlock, gd]
  · simp [Value.ownBlock, gs]
  · refine ⟨hgrow.os, hgrow.tape, hgrow.output, ?_, ?_, ?_⟩
    · have := hgrow.size
      rw [e3] at this
      simp [World.setCell]; omega
    · intro q hq a b c
      rw [Below.heap_setCell _ _ _ _ a, hgrow.block q (by omega) (Ne.symm c)]
      show ((w1.alloc o).alloc p).heap[q]? = _
      rw [Below.heap_alloc _ _ _ (by simp; omega), Below.heap_alloc _ _ _ hq]
    · intro g hg
      have : gg = g := by simpa [Value.ownBlock] using hg
      subst this
      rcases hat with e | e
      · exact .inl e
      · exact .inr (by omega)

set_option maxRecDepth 100000 in
set_option maxHeartbeats 3200000 in
theorem write_any (w : World) (bd bs : Nat) (lv : Value) (d : Dk) (a : Int) (s : ByteArray) (h : DAt w bd bs lv d) (ok : d.Ok) (a0 : 0 ≤ a) (a1 : a < d.safe.length) (hs : s.size ≤ 256) (hl : d.late.length ≤ 1000000) :
    Calls Tryz.prog 185 #[.pointer (some ⟨bd, 0, none⟩), .int .i64 a, .string s] w fun e w' => ∃ lv', e = .returned (.bool (d.write a.toNat s).1) ∧ DAt w' bd bs lv' (d.write a.toNat s).2 ∧ DStep bd bs lv lv' w w' := by
  obtain ⟨k, rfl⟩ := Int.eq_ofNat_of_zero_le a0
  rw [Int.toNat_natCast]
  have hn := ok.n
  cases hc : d.changes.1 with
  | false =>
    have HC := hide hc
    clear hc
    go_enter Tryz.func185, Tryz.ntmps185
    go_wp2_with fail
    refine (changes_any w bd bs lv d h ok).mono ?_
    rintro e w1 ⟨rfl, h1, st, hz⟩
    rw [unhide HC]
    go_wp2_with fail
    go_ret
    exact ⟨lv, by simp [Dk.write, unhide HC], by simpa [Dk.write, unhide HC] using h1, st⟩
  | true =>
    have HC := hide hc
    clear hc
    go_enter Tryz.func185, Tryz.ntmps185
    go_wp2_with fail
    refine (changes_any w bd bs lv d h ok).mono ?_
    rintro e w1 ⟨rfl, h1, st, hz⟩
    rw [unhide HC]
    have c0 := h1.c0
    rw [Dk.changes_safe, Dk.changes_cap] at c0
    have c1 := h1.c1
    have z1 := h1.fz 1
    have lt1 := h1.ltd
    have hown := h1.late
    rw [Dk.changes_late] at hown
    obtain ⟨i0, hi0, hz0, hz1, hz2⟩ := info_parts info_write
    have s0 : (0 : Int) ≤ (s.size : Int) := Int.natCast_nonneg _
    have s1 : (s.size : Int) ≤ 256 := by omega
    have nn := World.new_ne w1 _ c1
    have hsz : ¬ 9223372036854775807 < s.size + (zs (256 - s.size)).size := by rw [zs_size]; omega
    have hwr : IntKind.i64.wrap (256 - (s.size : Int)) = 256 - (s.size : Int) := by rw [IntKind.wrap_i64]; omega
    go_wp2_with fail
    clear hz
    go_region_law ((first
        | (refine step_append_lies _ (by rfl) _ _ _ (by rfl) 0 137 i0 _ 2 24 Tryz.underlying82 hi0 hz0 hz1 hz2 rfl (by omega) lv d.late.length (flat d.late) (by rfl) ((((hown.alloc _).alloc _)).drew)
            ⟨w1.heap.size + 1, 0, none⟩ 1 1 [.int .i64 (k : Int), .string (s ++ zs (256 - s.size))] (by rfl) (by rfl) (World.news_of_block (cs := #[.int .i64 (k : Int), .string (s ++ zs (256 - s.size))]) (t := 137) (fr := (0, 0)) (heap_two _ _ _)) (by simp [Value.oneCell'])
            (by omega) (by simp [maxLen]; omega) (by omega) (by omega) (w1.heap.size + 2) (by simp) ?_
           intro gg cap w2 hown1 hgrow hat hlt
           have cw : w2.cell? ⟨bd, 1, none⟩ = some lv := (hgrow.cell_far _ (by simp; omega) (Ne.symm h1.nd)).trans ((h1.alloc _).alloc _).drew.c1
           have zw : w2.frozen? ⟨bd, 1, none⟩ = false := (hgrow.frozen_far _ (by simp; omega) (Ne.symm h1.nd)).trans (((h1.alloc _).alloc _).drew.fz 1))
        | (go_simp; go_at_call 208; refine (zeros_any _ _ ?_ ?_).mono ?_; (· omega); (· omega); rintro e w' ⟨rfl, o, rfl⟩)))
    all_goals
      go_wp2
      go_ret
      have hE := write_end (k := k) (s := s ++ zs (256 - s.size)) (gg := gg) (cap := cap) h1 (by rw [Dk.changes_late]; exact hown1) hgrow hat
      rw [Dk.changes_late] at hE
      exact ⟨_, by simp [Dk.write, unhide HC], by simpa [Dk.write, unhide HC, pad] using hE.1, st.trans hE.2⟩
end Go.Proofs.YtcbindgpbeaebaaGreatDoor
