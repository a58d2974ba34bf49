import Derived.Test.YtcbindgpbeaebaaDoorNodeA
import Derived.BigRegion
namespace Go.Proofs.YtcbindgpbeaebaaDoor
open Go.RowKit Go.Deep
attribute [local go_sem ↓] Go.wp_at_zero Go.wp_at_succ

/-- A byte of a text, as a number. -/
def bt (t : ByteArray) (i : Nat) : Nat := if h : i < t.size then (t[i]'h).toNat else 0
theorem bt_at (t : ByteArray) (i : Nat) (h : i < t.size) : (t[i]'h).toNat = bt t i := by simp [bt, h]
theorem bt_lt (t : ByteArray) (i : Nat) : bt t i < 256 := by
  unfold bt
  split
  · exact UInt8.toNat_lt _
  · omega
def pEnd (t : ByteArray) : Nat := 7 + bt t 4
def dEnd (t : ByteArray) : Nat := 7 + bt t 4 + bt t 5 * 256 + bt t 6
/-- The node that a slot's text tells, whatever it is. -/
def nodeOf (t : ByteArray) : Nd := { path := t.extract 7 (pEnd t), kind := (bt t 0 : Int), mode := bits .or .i64 ((bt t 1 : Int) * 256) (bt t 2 : Int), tag := (bt t 3 : Int), data := t.extract (pEnd t) (dEnd t) }
/-- .. if it tells one. -/
def dec (t : ByteArray) : Option Nd := if dEnd t ≤ 512 ∧ okNode (nodeOf t) = true then some (nodeOf t) else none

theorem five_cells {w : World} {b : Nat} {v0 v1 v2 v3 v4 : Value} {t : TypeId} (h : w.heap[b]? = some (.cells #[v0, v1, v2, v3, v4] t (0, 0))) :
    w.cell? ⟨b, 0, none⟩ = some v0 ∧ w.cell? ⟨b, 1, none⟩ = some v1 ∧ w.cell? ⟨b, 2, none⟩ = some v2 ∧ w.cell? ⟨b, 3, none⟩ = some v3 ∧ w.cell? ⟨b, 4, none⟩ = some v4 := by
  refine ⟨?_, ?_, ?_, ?_, ?_⟩ <;> (rw [cell_of_row w b _ _ _ _ h]; rfl)
theorem five_frozen {w : World} {b : Nat} {v0 v1 v2 v3 v4 : Value} {t : TypeId} (h : w.heap[b]? = some (.cells #[v0, v1, v2, v3, v4] t (0, 0))) :
    w.frozen? ⟨b, 0, none⟩ = false ∧ w.frozen? ⟨b, 1, none⟩ = false ∧ w.frozen? ⟨b, 2, none⟩ = false ∧ w.frozen? ⟨b, 3, none⟩ = false ∧ w.frozen? ⟨b, 4, none⟩ = false :=
  ⟨frozen_of_row w b _ _ _ h, frozen_of_row w b _ _ _ h, frozen_of_row w b _ _ _ h, frozen_of_row w b _ _ _ h, frozen_of_row w b _ _ _ h⟩

def DecPost (w : World) (t : ByteArray) (e : Ending) (w' : World) : Prop := ∃ m : Nd, e = .returned (.tuple #[ndV m, .bool (dec t).isSome]) ∧ (∀ n, dec t = some n → m = n) ∧ Below w.heap.size w w'

set_option maxRecDepth 100000 in
set_option maxHeartbeats 6400000 in
theorem decode_any (w : World) (t : ByteArray) (hsz : t.size = 512) : Calls Tryd.prog 80 #[.string t] w (DecPost w t) := by
  have g0 := bt_at t 0 (by omega)
  have g1 := bt_at t 1 (by omega)
  have g2 := bt_at t 2 (by omega)
  have g3 := bt_at t 3 (by omega)
  have g4 := bt_at t 4 (by omega)
  have g5 := bt_at t 5 (by omega)
  have g6 := bt_at t 6 (by omega)
  have l0 := bt_lt t 0
  have l1 := bt_lt t 1
  have l2 := bt_lt t 2
  have l3 := bt_lt t 3
  have l4 := bt_lt t 4
  have l5 := bt_lt t 5
  have l6 := bt_lt t 6
  by_cases hd : 512 < dEnd t
  · have hd' : (512 : Int) < 7 + (bt t 4 : Int) + (bt t 5 : Int) * 256 + (bt t 6 : Int) := by unfold dEnd at hd; omega
    have HN := hide (show dec t = none by unfold dec; rw [if_neg (by omega)])
    go_enter Tryd.func80, Tryd.ntmps80
    go_wp2_with fail
    go_region
    go_wp2_with fail
    refine bodyPost_ret (v := .tuple #[ndV ⟨⟨#[]⟩, 0, 0, 0, ⟨#[]⟩⟩, .bool false]) ?_ rfl ⟨⟨⟨#[]⟩, 0, 0, 0, ⟨#[]⟩⟩, ?_, ?_, ?_⟩
    · simp [results, Tryd.f80, go_sem, ndV]
    · rw [unhide HN]; rfl
    · rw [unhide HN]; intro n hn; cases hn
    · exact ((Below.refl _ w).alloc (Nat.le_refl _) _).drew
  · have hd1 : dEnd t ≤ 512 := by omega
    have p1 : (7 : Int) ≤ 7 + (bt t 4 : Int) := by omega
    have p2 : 7 + (bt t 4 : Int) ≤ 512 := by unfold dEnd at hd1; omega
    have p3 : (0 : Int) ≤ 7 + (bt t 4 : Int) := by omega
    have p4 : 7 + (bt t 4 : Int) ≤ 7 + (bt t 4 : Int) + (bt t 5 : Int) * 256 + (bt t 6 : Int) := by omega
    have p5 : 7 + (bt t 4 : Int) + (bt t 5 : Int) * 256 + (bt t 6 : Int) ≤ 512 := by unfold dEnd at hd1; omega
    have p6 : (0 : Int) ≤ 7 + (bt t 4 : Int) + (bt t 5 : Int) * 256 + (bt t 6 : Int) := by omega
    have e1 : (7 + (bt t 4 : Int)).toNat = pEnd t := by unfold pEnd; omega
    have e2 : (7 + (bt t 4 : Int) + (bt t 5 : Int) * 256 + (bt t 6 : Int)).toNat = dEnd t := by unfold dEnd; omega
    go_enter Tryd.func80, Tryd.ntmps80
    go_wp2_with fail
    go_region
    go_wp2_with fail
    go_region
    go_wp2_with fail
    obtain ⟨W, hW⟩ : ∃ W, W = ((w.alloc (.cells #[.string ⟨#[]⟩, .int .i64 0, .int .i64 0, .int .i64 0, .string ⟨#[]⟩] 45)).alloc (.cells #[.string (t.extract 7 (pEnd t)), .int .i64 (bt t 0 : Int), .int .i64 (bits .or .i64 ((bt t 1 : Int) * 256) (bt t 2 : Int)), .int .i64 (bt t 3 : Int), .string (t.extract (pEnd t) (dEnd t))] 45)).drew.drew := ⟨_, rfl⟩
    have hB : Below w.heap.size w W := by rw [hW]; exact ((((Below.refl _ w).alloc (Nat.le_refl _) _).alloc (by simp) _).drew).drew
    have hs : W.heap.size = w.heap.size + 2 := by
      rw [hW]
      show ((w.alloc _).alloc _).heap.size = _
      simp
    have b0 : W.heap[w.heap.size]? = some (.cells #[.string ⟨#[]⟩, .int .i64 0, .int .i64 0, .int .i64 0, .string ⟨#[]⟩] 45 (0, 0)) := by
      rw [hW]
      exact (Below.heap_alloc _ _ _ (by simp)).trans (heap_alloc_new w _)
    have b1 : W.heap[w.heap.size + 1]? = some (.cells #[.string (t.extract 7 (pEnd t)), .int .i64 (bt t 0 : Int), .int .i64 (bits .or .i64 ((bt t 1 : Int) * 256) (bt t 2 : Int)), .int .i64 (bt t 3 : Int), .string (t.extract (pEnd t) (dEnd t))] 45 (0, 0)) := by
      rw [hW]
      exact heap_two' w _ _
    rw [← hW]
    clear hW
    have hps : (nodeOf t).path.size ≤ 4611686018427387904 := by
      show (t.extract 7 (pEnd t)).size ≤ _
      rw [ByteArray.size_extract]; omega
    have d := fun (X : World) (hX : X.heap[w.heap.size + 1]? = W.heap[w.heap.size + 1]?) => five_cells (hX.trans b1)
    have f := fun (X : World) (hX : X.heap[w.heap.size]? = W.heap[w.heap.size]?) => five_cells (hX.trans b0)
    have ff := fun (X : World) (hX : X.heap[w.heap.size]? = W.heap[w.heap.size]?) => five_frozen (hX.trans b0)
    obtain ⟨d0, d1, d2, d3, d4⟩ := d W.drew rfl
    obtain ⟨f0, f1, f2, f3, f4⟩ := f W.drew rfl
    have hI := fun w => isNode_any w (nodeOf t) hps
    have HD := hide d
    have HF := hide f
    have HFF := hide ff
    have HB0 := hide b0
    have HB1 := hide b1
    clear d f ff b0 b1
    go_region_with ((go_at_call 54; refine (hI _).mono ?_; rintro e w1 ⟨rfl, hb1⟩; obtain ⟨q0, q1, q2, q3, q4⟩ := (unhide HD) w1 (hb1.block _ (by show _ < W.heap.size; omega)); obtain ⟨r0, r1, r2, r3, r4⟩ := (unhide HF) w1 (hb1.block _ (by show _ < W.heap.size; omega)); obtain ⟨s0, s1, s2, s3, s4⟩ := (unhide HFF) w1 (hb1.block _ (by show _ < W.heap.size; omega))))
    all_goals
      go_wp2_with fail
      have hsome : (dec t).isSome = okNode (nodeOf t) := by
        unfold dec
        cases hk : okNode (nodeOf t) <;> simp [hd1]
      refine bodyPost_ret (v := .tuple #[ndV (nodeOf t), .bool (okNode (nodeOf t))]) ?_ rfl ⟨nodeOf t, ?_, ?_, ?_⟩
      · simp [results, Tryd.f80, go_sem, ndV, r0, r1, r2, r3, r4, nodeOf]
      · rw [hsome]
      · intro n hn
        unfold dec at hn
        split at hn
        · exact Option.some.inj hn
        · cases hn
      · exact (((((hB.drew.trans (hb1.mono (by show w.heap.size ≤ W.heap.size; omega))).setCell (p := ⟨w.heap.size, 0, none⟩) (Nat.le_refl _) _).setCell (p := ⟨w.heap.size, 1, none⟩) (Nat.le_refl _) _).setCell (p := ⟨w.heap.size, 2, none⟩) (Nat.le_refl _) _).setCell (p := ⟨w.heap.size, 3, none⟩) (Nat.le_refl _) _).setCell (p := ⟨w.heap.size, 4, none⟩) (Nat.le_refl _) _
end Go.Proofs.YtcbindgpbeaebaaDoor
