import Derived.Test.YtcbindgpbeaebaaGreatDoorRefC
import Derived.Test.YtcbindgpbeaebaaGreatDoorBaseC
namespace Go.Proofs.YtcbindgpbeaebaaGreatDoor

/-! What a disk does does not hang on its slice's capacity. -/
theorem Dk.changes_wc (d : Dk) (c : Nat) : ({ d with cap := c } : Dk).changes = (d.changes.1, { d.changes.2 with cap := c }) := by
  unfold Dk.changes
  simp only
  split
  · rfl
  · split <;> rfl
theorem Dk.write_wc (d : Dk) (c a : Nat) (s : ByteArray) : ({ d with cap := c } : Dk).write a s = ((d.write a s).1, { (d.write a s).2 with cap := c }) := by
  unfold Dk.write
  rw [Dk.changes_wc]
  simp only
  split <;> rfl
theorem Dk.flush_wc (d : Dk) (c : Nat) : ({ d with cap := c } : Dk).flush = (d.flush.1, { d.flush.2 with cap := c }) := by
  unfold Dk.flush
  rw [Dk.changes_wc]
  simp only
  split <;> rfl
theorem Dk.writes_wc : ∀ (T : List (Nat × ByteArray)) (d : Dk) (c : Nat), ({ d with cap := c } : Dk).writes T = ((d.writes T).1, { (d.writes T).2 with cap := c })
  | [], _, _ => rfl
  | x :: r, d, c => by
    simp only [Dk.writes, Dk.write_wc]
    split
    · exact Dk.writes_wc r _ c
    · rfl
theorem Dk.setRec_wc (d : Dk) (c : Nat) (ps : List (Nat × ByteArray)) : ({ d with cap := c } : Dk).setRec ps = ((d.setRec ps).1, { (d.setRec ps).2 with cap := c }) := by
  unfold Dk.setRec
  rw [Dk.write_wc]
  simp only
  split
  · exact Dk.flush_wc _ c
  · rfl
theorem Dk.through_wc (d : Dk) (c : Nat) (T ps : List (Nat × ByteArray)) : ({ d with cap := c } : Dk).through T ps = ((d.through T ps).1, { (d.through T ps).2 with cap := c }) := by
  unfold Dk.through
  rw [Dk.writes_wc]
  simp only [Dk.flush_wc]
  split
  · split
    · exact Dk.setRec_wc _ c ps
    · rfl
  · rfl
theorem inRoom_cap (d : Dk) (c : Nat) : ∀ (ps : List (Nat × ByteArray)) (i : Nat), inRoom { d with cap := c } i ps = inRoom d i ps
  | [], _ => rfl
  | p :: r, i => by
    rw [inRoom, inRoom, inRoom_cap d c r (i + 1)]
    rfl
theorem Dk.redo_wc (d : Dk) (c : Nat) (ps : List (Nat × ByteArray)) : ({ d with cap := c } : Dk).redo ps = ((d.redo ps).1, { (d.redo ps).2 with cap := c }) := by
  unfold Dk.redo
  rw [Dk.flush_wc]
  simp only [inRoom_cap, Dk.through_wc]
  split
  · split
    · rfl
    · split <;> rfl
  · rfl
theorem Dk.Ok.cap {d : Dk} (h : d.Ok) (c : Nat) : ({ d with cap := c } : Dk).Ok := ⟨h.w0, h.w1, h.l0, h.l1, h.f0, h.f1, h.n, h.lt⟩

/-- A disk that is dead does nothing. -/
theorem commit_dead {d : Dk} {ps : List (Nat × ByteArray)} (h : (commitL d ps false).1 = 0) (hp : 0 < ps.length) : d.life ≠ 0 := fun e => by
  have hp' : ps.length ≠ 0 := by omega
  have h1 : (d.through (room 0 ps) ps).1 = false := by
    cases ps with
    | nil => simp at hp
    | cons p r =>
      have : d.changes.1 = false := by simp [Dk.changes, e]
      have hw : (d.writes (room 0 (p :: r))).1 = false := by simp [room, Dk.writes, Dk.write, this]
      simp [Dk.through, hw]
  simp [commitL, hp', h1] at h
/-- A Commit that failed has counted it. -/
theorem commit_fe (d : Dk) (ps : List (Nat × ByteArray)) (ok : d.Ok) (hf : d.failed + 1 ≤ 9223372036854775806) (hl : d.late = []) (hN : 90 < d.safe.length) (hp0 : 0 < ps.length) (hp : ps.length ≤ 80) (hb4 : ∀ p ∈ ps, 90 + p.1 < d.safe.length) (h9 : (commitL d ps false).1 = 9) : d.failed < (commitL d ps false).2.1.failed := by
  have hp0' : ps.length ≠ 0 := by omega
  have hrm : ∀ x ∈ room 0 ps, x.1 < d.safe.length := fun x hx => by have := room_mem ps 0 x hx; omega
  rcases Dk.through_cases d (room 0 ps) ps ok (by omega) hl (by omega) hrm with ⟨h1, h2, h3, j, h4⟩ | ⟨h1, h2, h3, h4⟩ | ⟨h1, h2, h2f, h3, h4⟩
  · have e : commitL d ps false = (9, (d.through (room 0 ps) ps).2, true) := by simp [commitL, h1, hp0']
    rw [e]; have := h2.fe; simp only; omega
  · have e : commitL d ps false = (9, (d.through (room 0 ps) ps).2, true) := by simp [commitL, h1, hp0']
    rw [e]; have := h2.fe; simp only; omega
  · have hlen1 := h2.len
    have hhm : ∀ x ∈ home ps, x.1 < (d.through (room 0 ps) ps).2.safe.length := fun x hx => by
      obtain ⟨p, hp, rfl⟩ := home_mem hx
      rw [hlen1]; exact hb4 p hp
    rcases Dk.through_cases (d.through (room 0 ps) ps).2 (home ps) [] h2.ok (by omega) h4 (by omega) hhm with ⟨g1, g2, g3, j, g4⟩ | ⟨g1, g2, g3, g4⟩ | ⟨g1, g2, g2f, g3, g4⟩
    · have e : commitL d ps false = (9, ((d.through (room 0 ps) ps).2.through (home ps) []).2, true) := by simp [commitL, h1, g1, hp0']
      rw [e]; have := g2.fe; simp only; omega
    · have e : commitL d ps false = (9, ((d.through (room 0 ps) ps).2.through (home ps) []).2, true) := by simp [commitL, h1, g1, hp0']
      rw [e]; have := g2.fe; simp only; omega
    · have e : commitL d ps false = (0, ((d.through (room 0 ps) ps).2.through (home ps) []).2, false) := by simp [commitL, h1, g1, hp0']
      rw [e] at h9
      cases h9
end Go.Proofs.YtcbindgpbeaebaaGreatDoor

namespace Go.Proofs.YtcbindgpbeaebaaGreatDoor
open Go.RowKit Go.Deep
attribute [local go_sem ↓] Go.wp_at_zero Go.wp_at_succ

theorem failed_any (w : World) (bd bs : Nat) (lv : Value) (d : Dk) (h : DAt w bd bs lv d) :
    Calls Tryz.prog 78 #[.pointer (some ⟨bd, 0, none⟩)] w fun e w' => e = .returned (.int .i64 d.failed) ∧ w' = w := by
  have c4 := h.c4
  go_enter Tryz.func78, Tryz.ntmps78
  go_wp2
  go_ret
  exact ⟨rfl, rfl⟩
/-- max(n, 0) -/
def nonNeg (n : Int) : Int := if 0 ≤ n then n else 0
theorem fail_any (w : World) (bd bs : Nat) (lv : Value) (d : Dk) (n : Int) (h : DAt w bd bs lv d) :
    Calls Tryz.prog 36 #[.pointer (some ⟨bd, 0, none⟩), .int .i64 n] w fun e w' => e = .returned (.tuple #[]) ∧ DAt w' bd bs lv { d with wait := nonNeg n } ∧ DStep bd bs lv lv w w' := by
  have c2 := h.c2
  have z2 := h.fz 2
  by_cases h0 : 0 ≤ n
  · have HR : Hid (nonNeg n = n) := by show nonNeg n = n; rw [nonNeg, if_pos h0]
    go_enter Tryz.func36, Tryz.ntmps36
    go_wp2
    go_end0
    exact ⟨rfl, by rw [unhide HR]; exact h.setWait n, (DStep.refl _ _ _ _).setOwn _ _⟩
  · have HR : Hid (nonNeg n = 0) := by show nonNeg n = 0; rw [nonNeg, if_neg h0]
    have h1 : n < 0 := by omega
    clear h0
    go_enter Tryz.func36, Tryz.ntmps36
    go_wp2
    go_end0
    exact ⟨rfl, by rw [unhide HR]; exact h.setWait 0, (DStep.refl _ _ _ _).setOwn _ _⟩
theorem die_all (w : World) (bd bs : Nat) (lv : Value) (d : Dk) (n : Int) (h : DAt w bd bs lv d) :
    Calls Tryz.prog 30 #[.pointer (some ⟨bd, 0, none⟩), .int .i64 n] w fun e w' => e = .returned (.tuple #[]) ∧ DAt w' bd bs lv { d with life := nonNeg n } ∧ DStep bd bs lv lv w w' := by
  have c3 := h.c3
  have z3 := h.fz 3
  by_cases h0 : 0 ≤ n
  · have HR : Hid (nonNeg n = n) := by show nonNeg n = n; rw [nonNeg, if_pos h0]
    go_enter Tryz.func30, Tryz.ntmps30
    go_wp2
    go_end0
    exact ⟨rfl, by rw [unhide HR]; exact h.setLife n, (DStep.refl _ _ _ _).setOwn _ _⟩
  · have HR : Hid (nonNeg n = 0) := by show nonNeg n = 0; rw [nonNeg, if_neg h0]
    have h1 : n < 0 := by omega
    clear h0
    go_enter Tryz.func30, Tryz.ntmps30
    go_wp2
    go_end0
    exact ⟨rfl, by rw [unhide HR]; exact h.setLife 0, (DStep.refl _ _ _ _).setOwn _ _⟩

theorem five_fz {w : World} {b : Nat} {x0 x1 x2 x3 x4 : Value} {t : TypeId} (h : w.heap[b]? = some (.cells #[x0, x1, x2, x3, x4] t (0, 0))) :
    w.cell? ⟨b, 0, none⟩ = some x0 ∧ w.cell? ⟨b, 1, none⟩ = some x1 ∧ w.cell? ⟨b, 2, none⟩ = some x2 ∧ w.cell? ⟨b, 3, none⟩ = some x3 ∧ w.cell? ⟨b, 4, none⟩ = some x4 ∧ w.frozen? ⟨b, 0, none⟩ = false ∧ w.frozen? ⟨b, 1, none⟩ = false := by
  refine ⟨?_, ?_, ?_, ?_, ?_, frozen_of_row w b 0 _ _ h, frozen_of_row w b 1 _ _ h⟩
  · rw [cell_of_row w b 0 _ _ _ h]; rfl
  · rw [cell_of_row w b 1 _ _ _ h]; rfl
  · rw [cell_of_row w b 2 _ _ _ h]; rfl
  · rw [cell_of_row w b 3 _ _ _ h]; rfl
  · rw [cell_of_row w b 4 _ _ _ h]; rfl

set_option maxRecDepth 100000 in
set_option maxHeartbeats 3200000 in
theorem copy_any (w : World) (bd bs : Nat) (lv : Value) (d : Dk) (h : DAt w bd bs lv d) (hn0 : 0 < d.safe.length) (hn : d.safe.length ≤ 4096) (hl : d.late.length ≤ 1000000) :
    Calls Tryz.prog 27 #[.pointer (some ⟨bd, 0, none⟩)] w fun e w' => ∃ bs' lv' cap', e = .returned (.pointer (some ⟨w.heap.size, 0, none⟩)) ∧ DAt w' w.heap.size bs' lv' { d with cap := cap' } ∧ Below w.heap.size w w' ∧ w.heap.size ≤ bs' ∧ ∀ g, lv'.ownBlock = some g → w.heap.size ≤ g := by
  obtain ⟨i0, hi0, hz0, hz1, hz2⟩ := info_parts info_string
  obtain ⟨j0, hj0, hy0, hy1, hy2⟩ := info_parts info_write
  obtain ⟨lo, lcap, hlv⟩ := ownsRow_form h.late
  subst hlv
  have c0 := h.c0
  have c1 := h.c1
  have c2 := h.c2
  have c3 := h.c3
  have c4 := h.c4
  have ld := h.ltd
  have hS := h.safe
  have hL := h.late
  have d0 := fun o => (h.alloc o).c0
  have d1 := fun o => (h.alloc o).c1
  have h1s : ∀ u ∈ d.safe.map Value.string, u.oneCell' = true := fun u hu => by
    simp only [List.mem_map] at hu
    obtain ⟨s, _, rfl⟩ := hu
    rfl
  go_enter Tryz.func27, Tryz.ntmps27
  go_wp2_with (first
    | (at_builtin
       refine wpList_append_copy _ (by rfl) (.const (.slice none 0 0)) (.tmp 10) 60 (by rfl) w.heap.size 9 i0 _ 1 16 Tryz.underlying60 hi0 hz0 hz1 hz2 rfl (by omega) (by rfl) (.slice (some ⟨bs, 0, none⟩) d.safe.length d.cap) d.safe.length (d.safe.map Value.string) (by rfl) (hS.alloc _) h1s (by simp [maxLen]; omega) (by omega) (by simp) ?_
       intro v4 w4 ho4 hg4
       obtain ⟨g4, cap4, rfl, lg4, _⟩ := ho4.form hn0
       have s4 : w.heap.size + 1 ≤ w4.heap.size := by have := hg4.size; simpa using this
       have bN := (hg4.block w.heap.size (by simp) (by simp)).trans (heap_alloc_new w _)
       have bD := (hg4.block bd (by simp; omega) (by simp)).trans ((Below.heap_alloc w (.cells #[.slice (some ⟨bs, 0, none⟩) d.safe.length d.cap, .slice lo d.late.length lcap, .int .i64 d.wait, .int .i64 d.life, .int .i64 d.failed] 84) bd ld).trans h.own)
       have hL4 : w4.ownsRow 0 137 2 (.slice lo d.late.length lcap) d.late.length (flat d.late) := ownsRow_kept (hL.alloc _) fun g hg => hg4.block g (by have := (hL.lt g hg).2; simp; omega) (by simp)
       obtain ⟨a0, a1, a2, a3, a4, z0, z1⟩ := five_fz bN
       obtain ⟨b0, b1, b2, b3, b4, y0, y1⟩ := five_fz bD
       have nb : ¬ bd = w.heap.size := by omega
       have hL5 := ownsRow_set hL4 ⟨w.heap.size, 0, none⟩ (fun e => by have := (hL.lt _ e).2; simp only at this; omega) (.slice (some ⟨g4, 0, none⟩) d.safe.length cap4)
       have bN5 := heap_setCell_same w4 w.heap.size 0 _ _ (.slice (some ⟨g4, 0, none⟩) d.safe.length cap4) bN
       have n4 := ownsRow_ne ho4 bN (by decide)
       have ho5 := ownsRow_set ho4 ⟨w.heap.size, 0, none⟩ n4 (.slice (some ⟨g4, 0, none⟩) d.safe.length cap4)
       have HO5 := hide ho5
       have HN4 := hide n4
       have HG4 := hide hg4
       have HL5 := hide hL5
       have HBN5 := hide bN5
       clear ho4 hg4 bN bD hL4 hL5 bN5 n4 ho5)
    | (at_builtin
       refine wpList_append_copy _ (by rfl) (.const (.slice none 0 0)) (.tmp 16) 82 (by rfl) w.heap.size 137 j0 _ 2 24 Tryz.underlying82 hj0 hy0 hy1 hy2 rfl (by omega) (by rfl) (.slice lo d.late.length lcap) d.late.length (flat d.late) (by rfl) (unhide HL5) (flat_one _) (by simp [maxLen]; omega) (by omega) (by simp [World.setCell]; omega) ?_
       intro v6 w6 ho6 hg6
       obtain ⟨ao6, cap6, rfl⟩ := ownsRow_form ho6.base0
       have bN6 := (hg6.block w.heap.size (by simp [World.setCell]; omega) (by simp)).trans (unhide HBN5)
       simp only [List.setIfInBounds_toArray, List.set_cons_zero] at bN6
       obtain ⟨e0, e1, e2, e3, e4, x0, x1⟩ := five_fz bN6
       have HO6 := hide ho6
       have HG6 := hide hg6
       have HBN6 := hide bN6
       clear ho6 hg6 bN6))
  go_ret
  have o6 := ownsRow_kept (unhide HO5) fun g hg => (unhide HG6).block g ((unhide HO5).lt g hg).2 (by simp)
  have n6 : (Value.slice ao6 d.late.length cap6).ownBlock ≠ some w.heap.size := ownsRow_ne (unhide HO6) (unhide HBN6) (by decide)
  have bel : Below w.heap.size w w6 := by
    refine (((Below.refl _ _).alloc (Nat.le_refl _) _).grown (unhide HG4) (by simp) (by simp)).trans ?_
    exact ((Below.refl _ _).setCell (by simp) _).grown (unhide HG6) (by simp [World.setCell]; omega) (by simp)
  refine ⟨g4, .slice ao6 d.late.length cap6, cap4, rfl, ⟨?_, ?_, ?_, ?_, n6, ?_⟩, bel.setCell (by simp) _, lg4, fun g hg => ((unhide HO6).lt g hg).1⟩
  · rw [heap_setCell_same w6 w.heap.size 1 _ _ _ (unhide HBN6)]; simp [dcells]
  · exact ownsRow_set o6.base0 _ (unhide HN4) _
  · exact ownsRow_set (unhide HO6).base0 _ n6 _
  · intro e; exact (unhide HN4) (by simp [Value.ownBlock, e])
  · rcases o6.2 with ⟨e, _⟩ | ⟨g, cap, cur, e, _, hg, _⟩
    · cases e
    · simp only [Value.slice.injEq, Option.some.injEq, Addr.mk.injEq, and_true] at e
      obtain ⟨rfl, _, _⟩ := e
      exact ownsRow_ne (unhide HO6) hg (by decide)
end Go.Proofs.YtcbindgpbeaebaaGreatDoor

namespace Go.Proofs.YtcbindgpbeaebaaGreatDoor
open Go.RowKit Go.Deep
attribute [local go_sem ↓] Go.wp_at_zero Go.wp_at_succ

/-- A disk that nothing is written to, of any number of blocks (none among them). -/
structure SAt (w : World) (bd : Nat) (sv lv : Value) (S : List ByteArray) (wt lf fd : Int) : Prop where
  own : w.heap[bd]? = some (.cells #[sv, lv, .int .i64 wt, .int .i64 lf, .int .i64 fd] 84 (0, 0))
  safe : w.ownsRow 0 9 1 sv S.length (S.map Value.string)
  late : w.ownsRow 0 137 2 lv 0 []
theorem SAt.form {w : World} {bd : Nat} {sv lv : Value} {S : List ByteArray} {wt lf fd : Int} (h : SAt w bd sv lv S wt lf fd) : ∃ ao cap, sv = .slice ao S.length cap := ownsRow_form h.safe
theorem SAt.below {w w' : World} {bd : Nat} {sv lv : Value} {S : List ByteArray} {wt lf fd : Int} (h : SAt w bd sv lv S wt lf fd) (hb : Below w.heap.size w w') : SAt w' bd sv lv S wt lf fd :=
  ⟨(hb.block bd (lt_of_heap h.own)).trans h.own, ownsRow_kept h.safe fun g hg => hb.block g (h.safe.lt g hg).2, ownsRow_kept h.late fun g hg => hb.block g (h.late.lt g hg).2⟩
theorem SAt.drew {w : World} {bd : Nat} {sv lv : Value} {S : List ByteArray} {wt lf fd : Int} (h : SAt w bd sv lv S wt lf fd) : SAt w.drew bd sv lv S wt lf fd := ⟨h.own, h.safe.drew, h.late.drew⟩
theorem SAt.alloc {w : World} {bd : Nat} {sv lv : Value} {S : List ByteArray} {wt lf fd : Int} (h : SAt w bd sv lv S wt lf fd) (o : Obj) : SAt (w.alloc o) bd sv lv S wt lf fd :=
  ⟨(Below.heap_alloc w o bd (lt_of_heap h.own)).trans h.own, h.safe.alloc o, h.late.alloc o⟩
theorem SAt.setOther {w : World} {bd : Nat} {sv lv : Value} {S : List ByteArray} {wt lf fd : Int} (h : SAt w bd sv lv S wt lf fd) {k : Nat} {cs : Array Value} {t : TypeId} {fr : Nat × Nat} (hk : w.heap[k]? = some (.cells cs t fr)) (h2 : t ≠ 84) (h3 : 9 ≠ t) (h4 : 137 ≠ t) (i : Nat) (u : Value) : SAt (w.setCell ⟨k, i, none⟩ u) bd sv lv S wt lf fd := by
  have hown := h.own
  exact ⟨(Below.heap_setCell _ _ _ _ (fun e => by (simp only at e; rw [e, hk] at hown; cases hown; exact h2 rfl))).trans h.own, ownsRow_set h.safe _ (ownsRow_ne h.safe hk h3) _, ownsRow_set h.late _ (ownsRow_ne h.late hk h4) _⟩
theorem sblocks (w : World) (bd : Nat) (sv lv : Value) (S : List ByteArray) (wt lf fd : Int) (h : SAt w bd sv lv S wt lf fd) : Calls Tryz.prog 71 #[.pointer (some ⟨bd, 0, none⟩)] w fun e w' => e = .returned (.int .i64 (S.length : Int)) ∧ w' = w := by
  obtain ⟨ao, cap, hs⟩ := h.form
  subst hs
  obtain ⟨c0, c1, c2, c3, c4, z0, z1⟩ := five_fz h.own
  go_enter Tryz.func71, Tryz.ntmps71
  go_wp2
  go_ret
  exact ⟨rfl, rfl⟩
theorem sdead (w : World) (bd : Nat) (sv lv : Value) (S : List ByteArray) (wt lf fd : Int) (h : SAt w bd sv lv S wt lf fd) : Calls Tryz.prog 38 #[.pointer (some ⟨bd, 0, none⟩)] w fun e w' => e = .returned (.bool (lf == 0)) ∧ w' = w := by
  obtain ⟨c0, c1, c2, c3, c4, z0, z1⟩ := five_fz h.own
  go_enter Tryz.func38, Tryz.ntmps38
  go_wp2
  go_ret
  exact ⟨rfl, rfl⟩
theorem sfailed (w : World) (bd : Nat) (sv lv : Value) (S : List ByteArray) (wt lf fd : Int) (h : SAt w bd sv lv S wt lf fd) : Calls Tryz.prog 78 #[.pointer (some ⟨bd, 0, none⟩)] w fun e w' => e = .returned (.int .i64 fd) ∧ w' = w := by
  obtain ⟨c0, c1, c2, c3, c4, z0, z1⟩ := five_fz h.own
  go_enter Tryz.func78, Tryz.ntmps78
  go_wp2
  go_ret
  exact ⟨rfl, rfl⟩
theorem sopen (w : World) (bd : Nat) (sv lv : Value) (S : List ByteArray) (wt lf fd : Int) (h : SAt w bd sv lv S wt lf fd) (hs : S.length ≤ 90) : Calls Tryz.prog 73 #[.pointer (some ⟨bd, 0, none⟩)] w fun e w' => e = .returned (.tuple #[.pointer none, .int .i64 1]) ∧ w' = w := by
  go_enter Tryz.func73, Tryz.ntmps73
  go_wp2_with (go_at_call 71; refine (sblocks w bd sv lv S wt lf fd h).mono ?_; rintro e w' ⟨rfl, hw⟩; have hw := hw.symm; subst hw)
  go_ret2
  exact ⟨rfl, rfl⟩
theorem SAt.set (w : World) (bd : Nat) (sv lv : Value) (S : List ByteArray) (wt lf fd : Int) (h : SAt w bd sv lv S wt lf fd) (i : Nat) (u : Value) (wt' lf' fd' : Int) (hc : (#[sv, lv, .int .i64 wt, .int .i64 lf, .int .i64 fd] : Array Value).setIfInBounds i u = #[sv, lv, .int .i64 wt', .int .i64 lf', .int .i64 fd']) : SAt (w.setCell ⟨bd, i, none⟩ u) bd sv lv S wt' lf' fd' :=
  ⟨by rw [heap_setCell_same w bd i _ _ u h.own, hc], ownsRow_set h.safe _ (ownsRow_ne h.safe h.own (by decide)) _, ownsRow_set h.late _ (ownsRow_ne h.late h.own (by decide)) _⟩
theorem sfail (w : World) (bd : Nat) (sv lv : Value) (S : List ByteArray) (wt lf fd : Int) (h : SAt w bd sv lv S wt lf fd) (n : Int) : Calls Tryz.prog 36 #[.pointer (some ⟨bd, 0, none⟩), .int .i64 n] w fun e w' => e = .returned (.tuple #[]) ∧ (∃ wt', SAt w' bd sv lv S wt' lf fd) ∧ DStep bd bd (.slice none 0 0) (.slice none 0 0) w w' := by
  obtain ⟨c0, c1, c2, c3, c4, z0, z1⟩ := five_fz h.own
  have z2 := frozen_of_row w bd 2 _ _ h.own
  by_cases h0 : 0 ≤ n
  · go_enter Tryz.func36, Tryz.ntmps36
    go_wp2
    go_end0
    exact ⟨rfl, ⟨n, SAt.set w bd sv lv S wt lf fd h 2 _ _ _ _ (by simp)⟩, (DStep.refl _ _ _ _).setOwn _ _⟩
  · have h1 : n < 0 := by omega
    clear h0
    go_enter Tryz.func36, Tryz.ntmps36
    go_wp2
    go_end0
    exact ⟨rfl, ⟨0, SAt.set w bd sv lv S wt lf fd h 2 _ _ _ _ (by simp)⟩, (DStep.refl _ _ _ _).setOwn _ _⟩
theorem sdie (w : World) (bd : Nat) (sv lv : Value) (S : List ByteArray) (wt lf fd : Int) (h : SAt w bd sv lv S wt lf fd) (n : Int) : Calls Tryz.prog 30 #[.pointer (some ⟨bd, 0, none⟩), .int .i64 n] w fun e w' => e = .returned (.tuple #[]) ∧ (∃ lf', SAt w' bd sv lv S wt lf' fd) ∧ DStep bd bd (.slice none 0 0) (.slice none 0 0) w w' := by
  obtain ⟨c0, c1, c2, c3, c4, z0, z1⟩ := five_fz h.own
  have z3 := frozen_of_row w bd 3 _ _ h.own
  by_cases h0 : 0 ≤ n
  · go_enter Tryz.func30, Tryz.ntmps30
    go_wp2
    go_end0
    exact ⟨rfl, ⟨n, SAt.set w bd sv lv S wt lf fd h 3 _ _ _ _ (by simp)⟩, (DStep.refl _ _ _ _).setOwn _ _⟩
  · have h1 : n < 0 := by omega
    clear h0
    go_enter Tryz.func30, Tryz.ntmps30
    go_wp2
    go_end0
    exact ⟨rfl, ⟨0, SAt.set w bd sv lv S wt lf fd h 3 _ _ _ _ (by simp)⟩, (DStep.refl _ _ _ _).setOwn _ _⟩
set_option maxRecDepth 100000 in
set_option maxHeartbeats 1600000 in
theorem scrash (w : World) (bd : Nat) (sv lv : Value) (S : List ByteArray) (wt lf fd : Int) (h : SAt w bd sv lv S wt lf fd) (ko : Option Addr) (kn kc : Nat) :
    Calls Tryz.prog 28 #[.pointer (some ⟨bd, 0, none⟩), .slice ko kn kc] w fun e w' => e = .returned (.tuple #[]) ∧ SAt w' bd sv (.slice none 0 0) S (-1) (-1) fd ∧ DStep bd bd (.slice none 0 0) (.slice none 0 0) w w' := by
  obtain ⟨lo, lcap, hl⟩ := ownsRow_form h.late
  subst hl
  obtain ⟨c0, c1, c2, c3, c4, z0, z1⟩ := five_fz h.own
  have z2 := frozen_of_row w bd 2 _ _ h.own
  have z3 := frozen_of_row w bd 3 _ _ h.own
  go_enter Tryz.func28, Tryz.ntmps28
  go_wp2_with fail
  go_loopw [4] (fun i wr => i = .int .i64 0 ∧ wr = w) (fun _ _ => 0)
  case atStart => exact ⟨rfl, rfl⟩
  case round =>
    obtain ⟨rfl, hwr⟩ := hrel
    have hwr := hwr.symm
    subst hwr
    go_wp2_with fail
    go_end0
    have e1 := heap_setCell_same _ bd 1 _ _ (.slice none 0 0) h.own
    have e2 := heap_setCell_same _ bd 2 _ _ (.int .i64 (-1)) e1
    have e3 := heap_setCell_same _ bd 3 _ _ (.int .i64 (-1)) e2
    have s1 := ownsRow_set h.safe ⟨bd, 1, none⟩ (ownsRow_ne h.safe h.own (by decide)) (.slice none 0 0)
    have s2 := ownsRow_set s1 ⟨bd, 2, none⟩ (ownsRow_ne s1 e1 (by decide)) (.int .i64 (-1))
    have s3 := ownsRow_set s2 ⟨bd, 3, none⟩ (ownsRow_ne s2 e2 (by decide)) (.int .i64 (-1))
    exact ⟨rfl, ⟨by rw [e3]; simp, s3, World.ownsRow_nil _ _ _ _⟩, (((DStep.refl _ _ _ _).setOwn _ _).setOwn _ _).setOwn _ _⟩

set_option maxRecDepth 100000 in
set_option maxHeartbeats 3200000 in
theorem scopy (w : World) (bd : Nat) (sv lv : Value) (S : List ByteArray) (wt lf fd : Int) (h : SAt w bd sv lv S wt lf fd) (hn : S.length ≤ 4096) :
    Calls Tryz.prog 27 #[.pointer (some ⟨bd, 0, none⟩)] w fun e w' => ∃ sv' lv', e = .returned (.pointer (some ⟨w.heap.size, 0, none⟩)) ∧ SAt w' w.heap.size sv' lv' S wt lf fd ∧ Below w.heap.size w w' := by
  obtain ⟨i0, hi0, hz0, hz1, hz2⟩ := info_parts info_string
  obtain ⟨j0, hj0, hy0, hy1, hy2⟩ := info_parts info_write
  obtain ⟨so, scap, hsv⟩ := h.form
  subst hsv
  obtain ⟨lo, lcap, hlv⟩ := ownsRow_form h.late
  subst hlv
  obtain ⟨c0, c1, c2, c3, c4, z0, z1⟩ := five_fz h.own
  have ld := lt_of_heap h.own
  have hS := h.safe
  have hL := h.late
  obtain ⟨d0, d1⟩ : (∀ o, (w.alloc o).cell? ⟨bd, 0, none⟩ = some (.slice so S.length scap)) ∧ (∀ o, (w.alloc o).cell? ⟨bd, 1, none⟩ = some (.slice lo 0 lcap)) := ⟨fun o => (five_fz (h.alloc o).own).1, fun o => (five_fz (h.alloc o).own).2.1⟩
  have h1s : ∀ u ∈ S.map Value.string, u.oneCell' = true := fun u hu => by
    simp only [List.mem_map] at hu
    obtain ⟨s, _, rfl⟩ := hu
    rfl
  go_enter Tryz.func27, Tryz.ntmps27
  go_wp2_with (first
    | (at_builtin
       refine wpList_append_copy _ (by rfl) (.const (.slice none 0 0)) (.tmp 10) 60 (by rfl) w.heap.size 9 i0 _ 1 16 Tryz.underlying60 hi0 hz0 hz1 hz2 rfl (by omega) (by rfl) (.slice so S.length scap) S.length (S.map Value.string) (by rfl) (hS.alloc _) h1s (by simp [maxLen]; omega) (by omega) (by simp) ?_
       intro v4 w4 ho4 hg4
       obtain ⟨ao4, cap4, rfl⟩ := ownsRow_form ho4.base0
       have s4 : w.heap.size + 1 ≤ w4.heap.size := by have := hg4.size; simpa using this
       have bN := (hg4.block w.heap.size (by simp) (by simp)).trans (heap_alloc_new w _)
       have bD := (hg4.block bd (by simp; omega) (by simp)).trans ((Below.heap_alloc w (.cells #[.slice so S.length scap, .slice lo 0 lcap, .int .i64 wt, .int .i64 lf, .int .i64 fd] 84) bd ld).trans h.own)
       have hL4 : w4.ownsRow 0 137 2 (.slice lo 0 lcap) 0 [] := ownsRow_kept (hL.alloc _) fun g hg => hg4.block g (by have := (hL.lt g hg).2; simp; omega) (by simp)
       obtain ⟨a0, a1, a2, a3, a4, z0, z1⟩ := five_fz bN
       obtain ⟨b0, b1, b2, b3, b4, y0, y1⟩ := five_fz bD
       have nb : ¬ bd = w.heap.size := by omega
       have hL5 := ownsRow_set hL4 ⟨w.heap.size, 0, none⟩ (fun e => by have := (hL.lt _ e).2; simp only at this; omega) (.slice ao4 S.length cap4)
       have bN5 := heap_setCell_same w4 w.heap.size 0 _ _ (.slice ao4 S.length cap4) bN
       have n4 := ownsRow_ne ho4 bN (by decide)
       have ho5 := ownsRow_set ho4 ⟨w.heap.size, 0, none⟩ n4 (.slice ao4 S.length cap4)
       have HO5 := hide ho5
       have HN4 := hide n4
       have HG4 := hide hg4
       have HL5 := hide hL5
       have HBN5 := hide bN5
       clear ho4 hg4 bN bD hL4 hL5 bN5 n4 ho5)
    | (at_builtin
       refine wpList_append_copy _ (by rfl) (.const (.slice none 0 0)) (.tmp 16) 82 (by rfl) w.heap.size 137 j0 _ 2 24 Tryz.underlying82 hj0 hy0 hy1 hy2 rfl (by omega) (by rfl) (.slice lo 0 lcap) 0 [] (by rfl) (unhide HL5) (by simp) (by simp [maxLen]) (by omega) (by simp [World.setCell]; omega) ?_
       intro v6 w6 ho6 hg6
       obtain ⟨ao6, cap6, rfl⟩ := ownsRow_form ho6.base0
       have bN6 := (hg6.block w.heap.size (by simp [World.setCell]; omega) (by simp)).trans (unhide HBN5)
       simp only [List.setIfInBounds_toArray, List.set_cons_zero] at bN6
       obtain ⟨e0, e1, e2, e3, e4, x0, x1⟩ := five_fz bN6
       have HO6 := hide ho6
       have HG6 := hide hg6
       have HBN6 := hide bN6
       clear ho6 hg6 bN6))
  go_ret
  have o6 := ownsRow_kept (unhide HO5) fun g hg => (unhide HG6).block g ((unhide HO5).lt g hg).2 (by simp)
  have n6 : (Value.slice ao6 0 cap6).ownBlock ≠ some w.heap.size := ownsRow_ne (unhide HO6) (unhide HBN6) (by decide)
  have bel : Below w.heap.size w w6 := by
    refine (((Below.refl _ _).alloc (Nat.le_refl _) _).grown (unhide HG4) (by simp) (by simp)).trans ?_
    exact ((Below.refl _ _).setCell (by simp) _).grown (unhide HG6) (by simp [World.setCell]; omega) (by simp)
  refine ⟨.slice ao4 S.length cap4, .slice ao6 0 cap6, rfl, ⟨?_, ?_, ?_⟩, bel.setCell (by simp) _⟩
  · rw [heap_setCell_same w6 w.heap.size 1 _ _ _ (unhide HBN6)]; simp
  · exact ownsRow_set o6.base0 _ (unhide HN4) _
  · exact ownsRow_set (unhide HO6).base0 _ n6 _
theorem new_mem (w : World) (m : Nat) (hm : m ≤ 4096) : DAt ((w.alloc (.cells (madeCells #[.string ⟨#[]⟩] m) 9)).alloc (.cells #[.slice (some ⟨w.heap.size, 0, none⟩) m m, .slice none 0 0, .int .i64 (-1), .int .i64 (-1), .int .i64 0] 84)) (w.heap.size + 1) w.heap.size (.slice none 0 0) (newDk m) := by
  refine ⟨?_, ?_, World.ownsRow_nil _ _ _ _, by omega, by simp [Value.ownBlock], by simp [Value.ownBlock]⟩
  · have h := heap_alloc_new (w.alloc (.cells (madeCells #[.string ⟨#[]⟩] m) 9)) (.cells (dcells w.heap.size (.slice none 0 0) (newDk m)) 84)
    have e : (w.alloc (.cells (madeCells #[.string ⟨#[]⟩] m) 9)).heap.size = w.heap.size + 1 := by simp
    rw [e] at h
    simpa [dcells, newDk] using h
  · refine ⟨by simp, .inr ⟨w.heap.size, m, madeCells #[Value.string ⟨#[]⟩] m, by simp [newDk], Nat.zero_le _, ?_, by simp [newDk], by simp [maxLen]; omega, by rw [size_madeCells, Nat.mul_one], ?_⟩⟩
    · rw [Below.heap_alloc _ _ _ (by simp), heap_alloc_new]
    · rw [toList_madeCells_one]
      simp [newDk]
theorem new_big (w : World) (n : Int) (n0 : 4096 < n) :
    Calls Tryz.prog 12 #[.int .i64 n] w fun e w' => ∃ bd bs, e = .returned (.pointer (some ⟨bd, 0, none⟩)) ∧ DAt w' bd bs (.slice none 0 0) (newDk 4096) ∧ Below w.heap.size w w' ∧ w.heap.size ≤ bd ∧ w.heap.size ≤ bs := by
  have hmk : ∀ w, Sem.run Tryz.prog (Instr.makeSlice 60 (Value.int IntKind.i64 4096) (Value.int IntKind.i64 4096)) w = Result.ok (Value.slice (some ⟨w.heap.size, 0, none⟩) 4096 4096) (w.alloc (Obj.cells (madeCells #[Value.string ⟨#[]⟩] 4096) 9)) := fun w => run_make_row' (P := Tryz.prog) 60 9 (.string ⟨#[]⟩) 16 Tryz.underlying60 info_string rfl .i64 .i64 4096 (by omega) (by omega) w
  go_enter Tryz.func12, Tryz.ntmps12
  go_wp2
  go_ret
  exact ⟨w.heap.size + 1, w.heap.size, rfl, new_mem w 4096 (Nat.le_refl _), ((Below.refl _ _).alloc (Nat.le_refl _) _).alloc (by rw [World.size_alloc]; omega) _, by omega, Nat.le_refl _⟩
theorem new_none (w : World) (n : Int) (n0 : n ≤ 0) :
    Calls Tryz.prog 12 #[.int .i64 n] w fun e w' => ∃ bd sv, e = .returned (.pointer (some ⟨bd, 0, none⟩)) ∧ SAt w' bd sv (.slice none 0 0) [] (-1) (-1) 0 ∧ Below w.heap.size w w' ∧ w.heap.size ≤ bd := by
  have hmk : ∀ w, Sem.run Tryz.prog (Instr.makeSlice 60 (Value.int IntKind.i64 0) (Value.int IntKind.i64 0)) w = Result.ok (Value.slice (some ⟨w.heap.size, 0, none⟩) 0 0) (w.alloc (Obj.cells (madeCells #[Value.string ⟨#[]⟩] 0) 9)) := fun w => run_make_row' (P := Tryz.prog) 60 9 (.string ⟨#[]⟩) 16 Tryz.underlying60 info_string rfl .i64 .i64 0 (by omega) (by omega) w
  go_enter Tryz.func12, Tryz.ntmps12
  go_wp2
  go_ret
  refine ⟨w.heap.size + 1, .slice (some ⟨w.heap.size, 0, none⟩) 0 0, rfl, ⟨?_, ?_, World.ownsRow_nil _ _ _ _⟩, ?_, by omega⟩
  · have h := heap_alloc_new (w.alloc (.cells (madeCells #[.string ⟨#[]⟩] 0) 9)) (.cells #[.slice (some ⟨w.heap.size, 0, none⟩) 0 0, .slice none 0 0, .int .i64 (-1), .int .i64 (-1), .int .i64 0] 84)
    have e : (w.alloc (.cells (madeCells #[.string ⟨#[]⟩] 0) 9)).heap.size = w.heap.size + 1 := by simp
    rw [e] at h
    simpa using h
  · refine ⟨by simp, .inr ⟨w.heap.size, 0, madeCells #[Value.string ⟨#[]⟩] 0, by simp, Nat.zero_le _, ?_, by simp, by simp [maxLen], by rw [size_madeCells], ?_⟩⟩
    · rw [Below.heap_alloc _ _ _ (by simp), heap_alloc_new]
    · simp
  · exact ((Below.refl _ _).alloc (Nat.le_refl _) _).alloc (by simp) _
theorem SAt.ofD {w : World} {bd bs : Nat} {d : Dk} (h : DAt w bd bs (.slice none 0 0) d) : SAt w bd (.slice (some ⟨bs, 0, none⟩) d.safe.length d.cap) (.slice none 0 0) d.safe d.wait d.life d.failed := ⟨h.own, h.safe, World.ownsRow_nil _ _ _ _⟩
theorem open_nil (w : World) : Calls Tryz.prog 73 #[.pointer none] w fun e w' => e = .returned (.tuple #[.pointer none, .int .i64 1]) ∧ w' = w := by
  go_enter Tryz.func73, Tryz.ntmps73
  go_wp2_with fail
  go_ret2
  exact ⟨rfl, rfl⟩
end Go.Proofs.YtcbindgpbeaebaaGreatDoor

namespace Go.Proofs.YtcbindgpbeaebaaGreatDoor
open Go.RowKit Go.Deep
attribute [local go_sem ↓] Go.wp_at_zero Go.wp_at_succ

/-- 'load' answers ErrDisk. -/
def LoadBad (w : World) (bb : Nat) : Prop := Calls Tryz.prog 76 #[.pointer (some ⟨bb, 0, none⟩)] w fun e w' => e = .returned (.tuple #[.pointer none, .int .i64 9]) ∧ Below w.heap.size w w'

set_option maxRecDepth 100000 in
set_option maxHeartbeats 1600000 in
theorem nodes_bad (w : World) (bb : Nat) (hload : LoadBad w bb) :
    Calls Tryz.prog 39 #[.pointer (some ⟨bb, 0, none⟩)] w fun e w' => e = .returned (.tuple #[.slice none 0 0, .int .i64 9]) ∧ Below w.heap.size w w' := by
  unfold LoadBad at hload
  go_enter Tryz.func39, Tryz.ntmps39
  go_wp2_with fail
  refine hload.mono ?_
  rintro e w1 ⟨rfl, hb⟩
  go_wp2_with fail
  go_ret2
  exact ⟨rfl, hb⟩

set_option maxRecDepth 100000 in
set_option maxHeartbeats 1600000 in
theorem read_bad (w : World) (bb : Nat) (q : ByteArray) (hq : q.size ≤ 4611686018427387904) (hload : ∀ w1, Below w.heap.size w w1 → LoadBad w1 bb) :
    Calls Tryz.prog 34 #[.pointer (some ⟨bb, 0, none⟩), .string q] w fun e w' => e = .returned (.tuple #[ndV zNd, .int .i64 (if okPath q = true then 9 else 1)]) ∧ Below w.heap.size w w' := by
  obtain ⟨W, hW⟩ : ∃ W, W = w.alloc (.cells #[.string ⟨#[]⟩, .int .i64 0, .int .i64 0, .int .i64 0, .string ⟨#[]⟩] 76) := ⟨_, rfl⟩
  have b0 : W.heap[w.heap.size]? = some (.cells #[.string ⟨#[]⟩, .int .i64 0, .int .i64 0, .int .i64 0, .string ⟨#[]⟩] 76 (0, 0)) := by rw [hW]; exact heap_alloc_new w _
  have hBW : Below w.heap.size w W := by rw [hW]; exact (Below.refl _ w).alloc (Nat.le_refl _) _
  have hsz : W.heap.size = w.heap.size + 1 := by rw [hW]; simp
  have HF := hide fun (X : World) (hX : X.heap[w.heap.size]? = W.heap[w.heap.size]?) => And.intro (five_cells (hX.trans b0)) (five_frozen (hX.trans b0))
  have hV := Valid_any W q hq
  have HL := hide hload
  clear hload
  cases hok : okPath q with
  | false =>
    rw [hok] at hV
    rw [if_neg (by simp)]
    clear hok
    go_enter Tryz.func34, Tryz.ntmps34
    go_wp2_with fail
    rw [← hW]
    refine hV.mono ?_
    rintro e w1 ⟨rfl, o, rfl⟩
    obtain ⟨⟨r0, r1, r2, r3, r4⟩, s0, s1, s2, s3, s4⟩ := (unhide HF) (W.alloc o) (Below.heap_alloc _ _ _ (by omega))
    go_wp2_with fail
    refine bodyPost_ret (v := .tuple #[ndV zNd, .int .i64 1]) ?_ rfl ⟨rfl, ?_⟩
    · simp [results, Tryz.f34, go_sem, ndV, zNd]
    · exact ((Below.refl _ w).alloc (Nat.le_refl _) _).alloc (by simp) _
  | true =>
    rw [hok] at hV
    rw [if_pos rfl]
    clear hok
    have HW := hide hW
    clear hW
    go_enter Tryz.func34, Tryz.ntmps34
    go_wp2_with fail
    rw [← unhide HW]
    refine hV.mono ?_
    rintro e w1 ⟨rfl, o, hw1⟩
    have hb1 : Below w.heap.size w w1 := by rw [hw1]; exact hBW.alloc (by omega) _
    have hz1 : w.heap.size < w1.heap.size := by rw [hw1]; simp; omega
    have hk1 : w1.heap[w.heap.size]? = W.heap[w.heap.size]? := by rw [hw1]; exact Below.heap_alloc _ _ _ (by omega)
    clear hw1
    have hl1 := (unhide HL) w1 hb1
    unfold LoadBad at hl1
    go_wp2_with fail
    refine hl1.mono ?_
    rintro e w2 ⟨rfl, hb2⟩
    have hk2 := (hb2.block _ hz1).trans hk1
    have hb02 : Below w.heap.size w w2 := hb1.trans (hb2.mono (by omega))
    obtain ⟨⟨r0, r1, r2, r3, r4⟩, s0, s1, s2, s3, s4⟩ := (unhide HF) w2 hk2
    go_wp2_with fail
    refine bodyPost_ret (v := .tuple #[ndV zNd, .int .i64 9]) ?_ rfl ⟨rfl, ?_⟩
    · simp [results, Tryz.f34, go_sem, ndV, zNd, r0, r1, r2, r3, r4]
    · first
        | exact hb02
        | exact ((((hb02.setCell (p := ⟨w.heap.size, 0, none⟩) (Nat.le_refl _) _).setCell (p := ⟨w.heap.size, 1, none⟩) (Nat.le_refl _) _).setCell (p := ⟨w.heap.size, 2, none⟩) (Nat.le_refl _) _).setCell (p := ⟨w.heap.size, 3, none⟩) (Nat.le_refl _) _).setCell (p := ⟨w.heap.size, 4, none⟩) (Nat.le_refl _) _

set_option maxRecDepth 100000 in
set_option maxHeartbeats 1600000 in
theorem transact_bad (w : World) (bb : Nat) (ao : Option Addr) (n cap : Nat) (hload : LoadBad w bb) :
    Calls Tryz.prog 75 #[.pointer (some ⟨bb, 0, none⟩), .slice ao n cap] w fun e w' => e = .returned (.int .i64 9) ∧ Below w.heap.size w w' := by
  unfold LoadBad at hload
  go_enter_defers Tryz.func75, Tryz.ntmps75
  go_wp2_with fail
  refine hload.mono ?_
  rintro e w1 ⟨rfl, hb⟩
  go_wp2_with fail
  exact ⟨_, results_tmp rfl _ _ _, rfl, hb⟩

set_option maxRecDepth 100000 in
set_option maxHeartbeats 1600000 in
/-- Do, of a base that is broken, or whose disk is dead. -/
theorem do_bad (w : World) (bb bl : Nat) (bk : Bool) (v : Value) (L : List Dd) (hB : BAt w bb bl bk) (hload : ∀ w1, Below w.heap.size w w1 → LoadBad w1 bb) (hD : DsAt w v L) (hpz : ∀ x ∈ L, x.node.path.size ≤ 4611686018427387904) (hL : L.length ≤ 4611686018427387904) :
    Calls Tryz.prog 33 #[.pointer (some ⟨bb, 0, none⟩), v] w fun e w' => (okDeeds L = false ∧ e = .returned (.int .i64 1) ∧ Below w.heap.size w w') ∨
      (okDeeds L = true ∧ e = .returned (.int .i64 9) ∧ ∃ w2, Below w.heap.size w w2 ∧ w' = w2.setCell ⟨bb, 1, none⟩ (.bool true)) := by
  have hare := areDeeds_any w v L hD hpz hL
  obtain ⟨ao, cap, hv⟩ := hD.form
  cases hok : okDeeds L with
  | false =>
    rw [hok] at hare
    subst hv
    have HOK := hide hok
    clear hok
    go_enter Tryz.func33, Tryz.ntmps33
    go_wp2_with fail
    refine hare.mono ?_
    rintro e w1 ⟨rfl, hb1⟩
    go_wp2_with fail
    go_ret
    exact .inl ⟨trivial, rfl, hb1⟩
  | true =>
    rw [hok] at hare
    have HOK := hide hok
    have HL := hide hload
    clear hok hload
    subst hv
    go_enter Tryz.func33, Tryz.ntmps33
    go_wp2_with fail
    refine hare.mono ?_
    rintro e w1 ⟨rfl, hb1⟩
    go_wp2_with fail
    refine (transact_bad w1 bb ao L.length cap ((unhide HL) w1 hb1)).mono ?_
    rintro e w2 ⟨rfl, hb2⟩
    have hb02 : Below w.heap.size w w2 := hb1.trans (hb2.mono hb1.size)
    have hB2 := hB.kept (hb02.block bb hB.lt)
    have c1 := hB2.c1
    have f1 := hB2.fz 1
    go_wp2_with fail
    go_ret
    exact .inr ⟨trivial, rfl, w2, hb02, rfl⟩
end Go.Proofs.YtcbindgpbeaebaaGreatDoor
