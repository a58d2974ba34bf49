import Derived.Test.YtcbindgpbeaebaaGreatDoorIterA
import Derived.BigRegion
import Derived.Test.YtcbindgpbeaebaaGreatDoorWalkM
import Derived.Test.YtcbindgpbeaebaaGreatDoorPureB
namespace Go.Proofs.YtcbindgpbeaebaaGreatDoor
open Go.RowKit Go.Deep
attribute [local go_sem ↓] Go.wp_at_zero Go.wp_at_succ

/-- A byte of a text, as a number. -/
def bt (t : ByteArray) (i : Nat) : Nat := if h : i < t.size then (t[i]'h).toNat else 0
theorem bt_at (t : ByteArray) (i : Nat) (h : i < t.size) : (t[i]'h).toNat = bt t i := by simp [bt, h]
theorem bt_lt (t : ByteArray) (i : Nat) : bt t i < 256 := by
  unfold bt
  split
  · exact UInt8.toNat_lt _
  · omega
def pEnd (t : ByteArray) : Nat := 7 + bt t 4
def dEnd (t : ByteArray) : Nat := 7 + bt t 4 + bt t 5 * 256 + bt t 6
/-- The node that a slot's text tells, whatever it is. -/
def nodeOf (t : ByteArray) : Nd := { path := t.extract 7 (pEnd t), kind := (bt t 0 : Int), mode := bits .or .i64 ((bt t 1 : Int) * 256) (bt t 2 : Int), tag := (bt t 3 : Int), data := t.extract (pEnd t) (dEnd t) }
/-- .. if it tells one. -/
def dec (t : ByteArray) : Option Nd := if dEnd t ≤ 512 ∧ okNode (nodeOf t) = true then some (nodeOf t) else none

theorem five_cells {w : World} {b : Nat} {v0 v1 v2 v3 v4 : Value} {t : TypeId} (h : w.heap[b]? = some (.cells #[v0, v1, v2, v3, v4] t (0, 0))) :
    w.cell? ⟨b, 0, none⟩ = some v0 ∧ w.cell? ⟨b, 1, none⟩ = some v1 ∧ w.cell? ⟨b, 2, none⟩ = some v2 ∧ w.cell? ⟨b, 3, none⟩ = some v3 ∧ w.cell? ⟨b, 4, none⟩ = some v4 := by
  refine ⟨?_, ?_, ?_, ?_, ?_⟩ <;> (rw [cell_of_row w b _ _ _ _ h]; rfl)
theorem five_frozen {w : World} {b : Nat} {v0 v1 v2 v3 v4 : Value} {t : TypeId} (h : w.heap[b]? = some (.cells #[v0, v1, v2, v3, v4] t (0, 0))) :
    w.frozen? ⟨b, 0, none⟩ = false ∧ w.frozen? ⟨b, 1, none⟩ = false ∧ w.frozen? ⟨b, 2, none⟩ = false ∧ w.frozen? ⟨b, 3, none⟩ = false ∧ w.frozen? ⟨b, 4, none⟩ = false :=
  ⟨frozen_of_row w b _ _ _ h, frozen_of_row w b _ _ _ h, frozen_of_row w b _ _ _ h, frozen_of_row w b _ _ _ h, frozen_of_row w b _ _ _ h⟩

def DecPost (w : World) (t : ByteArray) (e : Ending) (w' : World) : Prop := ∃ m : Nd, e = .returned (.tuple #[ndV m, .bool (dec t).isSome]) ∧ (∀ n, dec t = some n → m = n) ∧ Below w.heap.size w w'

set_option maxRecDepth 100000 in
set_option maxHeartbeats 6400000 in
theorem decode_any (w : World) (t : ByteArray) (hsz : t.size = 512) : Calls Tryz.prog 156 #[.string t] w (DecPost w t) := by
  have g0 := bt_at t 0 (by omega)
  have g1 := bt_at t 1 (by omega)
  have g2 := bt_at t 2 (by omega)
  have g3 := bt_at t 3 (by omega)
  have g4 := bt_at t 4 (by omega)
  have g5 := bt_at t 5 (by omega)
  have g6 := bt_at t 6 (by omega)
  have l0 := bt_lt t 0
  have l1 := bt_lt t 1
  have l2 := bt_lt t 2
  have l3 := bt_lt t 3
  have l4 := bt_lt t 4
  have l5 := bt_lt t 5
  have l6 := bt_lt t 6
  by_cases hd : 512 < dEnd t
  · have hd' : (512 : Int) < 7 + (bt t 4 : Int) + (bt t 5 : Int) * 256 + (bt t 6 : Int) := by unfold dEnd at hd; omega
    have HN := hide (show dec t = none by unfold dec; rw [if_neg (by omega)])
    go_enter Tryz.func156, Tryz.ntmps156
    go_wp2_with fail
    go_region
    go_wp2_with fail
    refine bodyPost_ret (v := .tuple #[ndV ⟨⟨#[]⟩, 0, 0, 0, ⟨#[]⟩⟩, .bool false]) ?_ rfl ⟨⟨⟨#[]⟩, 0, 0, 0, ⟨#[]⟩⟩, ?_, ?_, ?_⟩
    · simp [results, Tryz.f156, go_sem, ndV]
    · rw [unhide HN]; rfl
    · rw [unhide HN]; intro n hn; cases hn
    · exact ((Below.refl _ w).alloc (Nat.le_refl _) _).drew
  · have hd1 : dEnd t ≤ 512 := by omega
    have p1 : (7 : Int) ≤ 7 + (bt t 4 : Int) := by omega
    have p2 : 7 + (bt t 4 : Int) ≤ 512 := by unfold dEnd at hd1; omega
    have p3 : (0 : Int) ≤ 7 + (bt t 4 : Int) := by omega
    have p4 : 7 + (bt t 4 : Int) ≤ 7 + (bt t 4 : Int) + (bt t 5 : Int) * 256 + (bt t 6 : Int) := by omega
    have p5 : 7 + (bt t 4 : Int) + (bt t 5 : Int) * 256 + (bt t 6 : Int) ≤ 512 := by unfold dEnd at hd1; omega
    have p6 : (0 : Int) ≤ 7 + (bt t 4 : Int) + (bt t 5 : Int) * 256 + (bt t 6 : Int) := by omega
    have e1 : (7 + (bt t 4 : Int)).toNat = pEnd t := by unfold pEnd; omega
    have e2 : (7 + (bt t 4 : Int) + (bt t 5 : Int) * 256 + (bt t 6 : Int)).toNat = dEnd t := by unfold dEnd; omega
    go_enter Tryz.func156, Tryz.ntmps156
    go_wp2_with fail
    go_region
    go_wp2_with fail
    go_region
    go_wp2_with fail
    obtain ⟨W, hW⟩ : ∃ W, W = ((w.alloc (.cells #[.string ⟨#[]⟩, .int .i64 0, .int .i64 0, .int .i64 0, .string ⟨#[]⟩] 76)).alloc (.cells #[.string (t.extract 7 (pEnd t)), .int .i64 (bt t 0 : Int), .int .i64 (bits .or .i64 ((bt t 1 : Int) * 256) (bt t 2 : Int)), .int .i64 (bt t 3 : Int), .string (t.extract (pEnd t) (dEnd t))] 76)).drew.drew := ⟨_, rfl⟩
    have hB : Below w.heap.size w W := by rw [hW]; exact ((((Below.refl _ w).alloc (Nat.le_refl _) _).alloc (by simp) _).drew).drew
    have hs : W.heap.size = w.heap.size + 2 := by
      rw [hW]
      show ((w.alloc _).alloc _).heap.size = _
      simp
    have b0 : W.heap[w.heap.size]? = some (.cells #[.string ⟨#[]⟩, .int .i64 0, .int .i64 0, .int .i64 0, .string ⟨#[]⟩] 76 (0, 0)) := by
      rw [hW]
      exact (Below.heap_alloc _ _ _ (by simp)).trans (heap_alloc_new w _)
    have b1 : W.heap[w.heap.size + 1]? = some (.cells #[.string (t.extract 7 (pEnd t)), .int .i64 (bt t 0 : Int), .int .i64 (bits .or .i64 ((bt t 1 : Int) * 256) (bt t 2 : Int)), .int .i64 (bt t 3 : Int), .string (t.extract (pEnd t) (dEnd t))] 76 (0, 0)) := by
      rw [hW]
      exact heap_two' w _ _
    rw [← hW]
    clear hW
    have hps : (nodeOf t).path.size ≤ 4611686018427387904 := by
      show (t.extract 7 (pEnd t)).size ≤ _
      rw [ByteArray.size_extract]; omega
    have d := fun (X : World) (hX : X.heap[w.heap.size + 1]? = W.heap[w.heap.size + 1]?) => five_cells (hX.trans b1)
    have f := fun (X : World) (hX : X.heap[w.heap.size]? = W.heap[w.heap.size]?) => five_cells (hX.trans b0)
    have ff := fun (X : World) (hX : X.heap[w.heap.size]? = W.heap[w.heap.size]?) => five_frozen (hX.trans b0)
    obtain ⟨d0, d1, d2, d3, d4⟩ := d W.drew rfl
    obtain ⟨f0, f1, f2, f3, f4⟩ := f W.drew rfl
    have hI := fun w => isNode_any w (nodeOf t) hps
    have HD := hide d
    have HF := hide f
    have HFF := hide ff
    have HB0 := hide b0
    have HB1 := hide b1
    clear d f ff b0 b1
    go_region_with ((go_at_call 114; refine (hI _).mono ?_; rintro e w1 ⟨rfl, hb1⟩; obtain ⟨q0, q1, q2, q3, q4⟩ := (unhide HD) w1 (hb1.block _ (by show _ < W.heap.size; omega)); obtain ⟨r0, r1, r2, r3, r4⟩ := (unhide HF) w1 (hb1.block _ (by show _ < W.heap.size; omega)); obtain ⟨s0, s1, s2, s3, s4⟩ := (unhide HFF) w1 (hb1.block _ (by show _ < W.heap.size; omega))))
    all_goals
      go_wp2_with fail
      have hsome : (dec t).isSome = okNode (nodeOf t) := by
        unfold dec
        cases hk : okNode (nodeOf t) <;> simp [hd1]
      refine bodyPost_ret (v := .tuple #[ndV (nodeOf t), .bool (okNode (nodeOf t))]) ?_ rfl ⟨nodeOf t, ?_, ?_, ?_⟩
      · simp [results, Tryz.f156, go_sem, ndV, r0, r1, r2, r3, r4, nodeOf]
      · rw [hsome]
      · intro n hn
        unfold dec at hn
        split at hn
        · exact Option.some.inj hn
        · cases hn
      · exact (((((hB.drew.trans (hb1.mono (by show w.heap.size ≤ W.heap.size; omega))).setCell (p := ⟨w.heap.size, 0, none⟩) (Nat.le_refl _) _).setCell (p := ⟨w.heap.size, 1, none⟩) (Nat.le_refl _) _).setCell (p := ⟨w.heap.size, 2, none⟩) (Nat.le_refl _) _).setCell (p := ⟨w.heap.size, 3, none⟩) (Nat.le_refl _) _).setCell (p := ⟨w.heap.size, 4, none⟩) (Nat.le_refl _) _
end Go.Proofs.YtcbindgpbeaebaaGreatDoor

namespace Go.Proofs.YtcbindgpbeaebaaGreatDoor
open Go.RowKit Go.Deep
attribute [local go_sem ↓] Go.wp_at_zero Go.wp_at_succ

/-- The head of a slot's text. -/
def headL (n : Nd) : List UInt8 := [UInt8.ofNat n.kind.toNat, UInt8.ofNat (n.mode / 256).toNat, UInt8.ofNat (n.mode % 256).toNat, UInt8.ofNat n.tag.toNat, UInt8.ofNat n.path.size, UInt8.ofNat (n.data.size / 256), UInt8.ofNat (n.data.size % 256)]
/-- A node as a slot has it. -/
def enc (n : Nd) : ByteArray := ⟨(headL n).toArray⟩ ++ n.path ++ n.data
theorem u8_nat (x : Nat) (h : x < 256) : (UInt8.ofNat x).toNat = x := by simp [UInt8.toNat_ofNat', Nat.mod_eq_of_lt h]

set_option maxRecDepth 100000 in
set_option maxHeartbeats 6400000 in
theorem encode_any (w : World) (n : Nd) (hk : 0 ≤ n.kind ∧ n.kind < 256) (hm : 0 ≤ n.mode ∧ n.mode < 512) (ht : 0 ≤ n.tag ∧ n.tag < 256) (hp : n.path.size < 256) (hd : n.data.size ≤ 400) :
    Calls Tryz.prog 214 #[ndV n] w fun e w' => e = .returned (.string (enc n)) ∧ Below w.heap.size w w' := by
  obtain ⟨path, kind, mode, tag, data⟩ := n
  unfold ndV
  simp only at hk hm ht hp hd ⊢
  obtain ⟨hk0, hk1⟩ := hk
  obtain ⟨hm0, hm1⟩ := hm
  obtain ⟨ht0, ht1⟩ := ht
  go_enter Tryz.func214, Tryz.ntmps214
  go_wp2_with fail
  obtain ⟨W, hW⟩ : ∃ W, W = (w.alloc (.cells #[.string path, .int .i64 kind, .int .i64 mode, .int .i64 tag, .string data] 76)).alloc (.cells #[.int .u8 kind, .int .u8 (mode / 256), .int .u8 (mode % 256), .int .u8 tag, .int .u8 (path.size : Int), .int .u8 ((data.size : Int) / 256), .int .u8 ((data.size : Int) % 256)] 270) := ⟨_, rfl⟩
  have hB : Below w.heap.size w W := by rw [hW]; exact ((Below.refl _ w).alloc (Nat.le_refl _) _).alloc (by simp) _
  have b0 : W.heap[w.heap.size]? = some (.cells #[.string path, .int .i64 kind, .int .i64 mode, .int .i64 tag, .string data] 76 (0, 0)) := by
    rw [hW]
    exact (Below.heap_alloc _ _ _ (by simp)).trans (heap_alloc_new w _)
  have b1 : W.heap[w.heap.size + 1]? = some (.cells #[.int .u8 kind, .int .u8 (mode / 256), .int .u8 (mode % 256), .int .u8 tag, .int .u8 (path.size : Int), .int .u8 ((data.size : Int) / 256), .int .u8 ((data.size : Int) % 256)] 270 (0, 0)) := by
    rw [hW]
    exact heap_two' w _ _
  rw [← hW]
  clear hW
  have c0 : W.drew.cell? ⟨w.heap.size, 0, none⟩ = some (.string path) := by rw [cell_of_row W.drew _ _ _ _ _ b0]; rfl
  have c4 : W.drew.cell? ⟨w.heap.size, 4, none⟩ = some (.string data) := by rw [cell_of_row W.drew _ _ _ _ _ b0]; rfl
  obtain ⟨hd', hhd⟩ : ∃ l, l = headL ⟨path, kind, mode, tag, data⟩ := ⟨_, rfl⟩
  have hcv : (convert 207 9 (.slice (some ⟨w.heap.size + 1, 0, none⟩) 7 7)).run Tryz.prog W.drew = .ok (.string ⟨hd'.toArray⟩) W.drew := by
    have := run_convert_bytes_back (P := Tryz.prog) W.drew 207 9 5 ⟨w.heap.size + 1, 0, none⟩ 7 hd' Tryz.underlying207 Tryz.underlying5 Tryz.underlying9 (fun j hj => by
      have hadd : (⟨w.heap.size + 1, 0, none⟩ : Addr).add j = ⟨w.heap.size + 1, j, none⟩ := by unfold Addr.add; split <;> simp_all
      rw [hadd, cell_of_row W.drew _ _ _ _ _ b1]
      subst hhd
      have hj7 : j < 7 := hj
      match j, hj7 with
      | 0, _ => exact congrArg (fun x => some (Value.int .u8 x)) (show (kind : Int) = ((UInt8.ofNat kind.toNat).toNat : Int) by rw [u8_nat _ (by omega)]; omega)
      | 1, _ => exact congrArg (fun x => some (Value.int .u8 x)) (show (mode / 256 : Int) = ((UInt8.ofNat (mode / 256).toNat).toNat : Int) by rw [u8_nat _ (by omega)]; omega)
      | 2, _ => exact congrArg (fun x => some (Value.int .u8 x)) (show (mode % 256 : Int) = ((UInt8.ofNat (mode % 256).toNat).toNat : Int) by rw [u8_nat _ (by omega)]; omega)
      | 3, _ => exact congrArg (fun x => some (Value.int .u8 x)) (show (tag : Int) = ((UInt8.ofNat tag.toNat).toNat : Int) by rw [u8_nat _ (by omega)]; omega)
      | 4, _ => exact congrArg (fun x => some (Value.int .u8 x)) (show (path.size : Int) = ((UInt8.ofNat path.size).toNat : Int) by rw [u8_nat _ (by omega)])
      | 5, _ => exact congrArg (fun x => some (Value.int .u8 x)) (show ((data.size : Int) / 256 : Int) = ((UInt8.ofNat (data.size / 256)).toNat : Int) by rw [u8_nat _ (by omega)]; omega)
      | 6, _ => exact congrArg (fun x => some (Value.int .u8 x)) (show ((data.size : Int) % 256 : Int) = ((UInt8.ofNat (data.size % 256)).toNat : Int) by rw [u8_nat _ (by omega)]; omega))
    rw [hhd] at this ⊢
    exact this
  have hl7 : hd'.length = 7 := by rw [hhd]; rfl
  have n1 : ¬ (9223372036854775807 < hd'.length + path.size) := by omega
  have n2 : ¬ (9223372036854775807 < hd'.length + path.size + data.size) := by omega
  have HE := hide hhd
  clear b0 b1 hhd
  go_region
  go_wp2_with fail
  go_ret
  refine ⟨?_, hB.drew⟩
  rw [unhide HE]
  rfl
end Go.Proofs.YtcbindgpbeaebaaGreatDoor

namespace Go.Proofs.YtcbindgpbeaebaaGreatDoor
open Go.RowKit Go.Deep
attribute [local go_sem ↓] Go.wp_at_zero Go.wp_at_succ

theorem nil_app (s : ByteArray) : (⟨#[]⟩ : ByteArray) ++ s = s := by
  apply ByteArray.ext
  simp

set_option maxRecDepth 100000 in
set_option maxHeartbeats 3200000 in
theorem readSlot_dead (w : World) (bl bd bs : Nat) (pv lv : Value) (ps : List (Nat × ByteArray)) (br : Bool) (d : Dk) (slot : Nat) (hl : LAt w bl bd pv ps br) (h : DAt w bd bs lv d) (hn : d.safe.length ≤ 4096) (hll : d.late.length ≤ 1000000) (hp : ps.length ≤ 80) (hs : slot < 60)
    (hg : getL d ps br ((2 * slot : Nat) : Int) = (⟨#[]⟩, 9)) :
    Calls Tryz.prog 155 #[.pointer (some ⟨bl, 0, none⟩), .int .i64 (slot : Int)] w fun e w' => e = .returned (.tuple #[.string ⟨#[]⟩, .int .i64 9]) ∧ Below w.heap.size w w' := by
  have e0 : (slot : Int) * 2 = ((2 * slot : Nat) : Int) := by omega
  have HG := hide hg
  clear hg
  go_enter Tryz.func155, Tryz.ntmps155
  go_wp2_with fail
  go_loopw [10] (fun i wr => i = .int .i64 0 ∧ wr = w) (fun _ _ => 0)
  case atStart => exact ⟨rfl, rfl⟩
  case round =>
    obtain ⟨rfl, rfl⟩ := hrel
    go_wp2_with fail
    refine (get_any wr bl bd bs pv lv ps br d ((2 * slot : Nat) : Int) hl h hn hll hp).mono ?_
    rintro e w1 ⟨rfl, hb⟩
    rw [unhide HG]
    go_wp2_with fail
    go_ret2
    exact ⟨rfl, hb⟩

set_option maxRecDepth 100000 in
set_option maxHeartbeats 3200000 in
theorem readSlot_ok (w : World) (bl bd bs : Nat) (pv lv : Value) (ps : List (Nat × ByteArray)) (br : Bool) (d : Dk) (slot : Nat) (V : Nat → ByteArray) (hl : LAt w bl bd pv ps br) (h : DAt w bd bs lv d) (hn : d.safe.length ≤ 4096) (hll : d.late.length ≤ 1000000) (hp : ps.length ≤ 80) (hs : slot < 60)
    (hV : ∀ i, i < 120 → getL d ps br ((i : Nat) : Int) = (V i, 0) ∧ (V i).size = 256) :
    Calls Tryz.prog 155 #[.pointer (some ⟨bl, 0, none⟩), .int .i64 (slot : Int)] w fun e w' => e = .returned (.tuple #[.string (V (2 * slot) ++ V (2 * slot + 1)), .int .i64 0]) ∧ Below w.heap.size w w' := by
  have e0 : (slot : Int) * 2 = ((2 * slot : Nat) : Int) := by omega
  have HV := hide hV
  clear hV
  go_enter Tryz.func155, Tryz.ntmps155
  go_wp2_with fail
  go_loopw [6, 10] (fun t i wr => ∃ k : Nat, k ≤ 2 ∧ i = .int .i64 k ∧ t = .string (if k = 0 then ⟨#[]⟩ else if k = 1 then V (2 * slot) else V (2 * slot) ++ V (2 * slot + 1)) ∧ Below w.heap.size w wr) (fun _ i _ => 2 - (intOf i).toNat)
  case atStart => exact ⟨0, by omega, rfl, rfl, Below.refl _ _⟩
  case round =>
    obtain ⟨k, hk, rfl, rfl, hb⟩ := hrel
    have hl1 := hl.below hb
    have h1 := h.below hb
    rcases (by omega : k = 0 ∨ k = 1 ∨ k = 2) with rfl | rfl | rfl
    · obtain ⟨g0, z0⟩ := (unhide HV) (2 * slot) (by omega)
      have HG := hide g0
      clear g0
      go_wp2_with fail
      refine (get_any wr bl bd bs pv lv ps br d ((2 * slot : Nat) : Int) hl1 h1 hn hll hp).mono ?_
      rintro e w1 ⟨rfl, hb1⟩
      rw [unhide HG]
      go_wp2_with fail
      go_roundw
      case rel => exact ⟨1, by omega, by go_num, by simp [nil_app], hb.trans (hb1.mono hb.size)⟩
      case measure => simp [intOf]
    · obtain ⟨g0, z0⟩ := (unhide HV) (2 * slot + 1) (by omega)
      have y0 := ((unhide HV) (2 * slot) (by omega)).2
      have e1 : ((2 * slot : Nat) : Int) + 1 = ((2 * slot + 1 : Nat) : Int) := by omega
      have HG := hide g0
      clear g0
      go_wp2_with fail
      refine (get_any wr bl bd bs pv lv ps br d ((2 * slot + 1 : Nat) : Int) hl1 h1 hn hll hp).mono ?_
      rintro e w1 ⟨rfl, hb1⟩
      rw [unhide HG]
      go_wp2_with fail
      go_roundw
      case rel => exact ⟨2, by omega, by go_num, by simp, hb.trans (hb1.mono hb.size)⟩
      case measure => simp [intOf]
    · go_wp2_with fail
      go_ret2
      exact ⟨rfl, hb⟩

/-! ### What the slots tell -/
theorem insM_mem : ∀ (M : List Pl) (x p : Pl), p ∈ insM M x → p = x ∨ p ∈ M
  | [], x, p, h => by simp [insM] at h; exact .inl h
  | y :: r, x, p, h => by
    unfold insM at h
    split at h
    · rcases List.mem_cons.1 h with rfl | h
      · exact .inr (by simp)
      · rcases insM_mem r x p h with h | h
        · exact .inl h
        · exact .inr (by simp [h])
    · split at h
      · rcases List.mem_cons.1 h with h | h
        · exact .inl h
        · exact .inr (by simp [h])
      · rcases List.mem_cons.1 h with h | h
        · exact .inl h
        · exact .inr h
theorem insM_ord : ∀ (M : List Pl) (x : Pl), Ord M → Ord (insM M x)
  | [], x, _ => by simp [insM, Ord]
  | y :: r, x, h => by
    unfold Ord at h
    obtain ⟨h1, h2⟩ := List.pairwise_cons.1 h
    have ih := insM_ord r x h2
    unfold insM
    split
    · next hlt =>
      refine List.pairwise_cons.2 ⟨fun p hp => ?_, ih⟩
      rcases insM_mem r x p hp with rfl | hp
      · exact hlt
      · exact h1 p hp
    · next hge =>
      split
      · next he =>
        have e := cmpB_zero he
        exact List.pairwise_cons.2 ⟨fun p hp => by rw [← e]; exact h1 p hp, h2⟩
      · next hne =>
        have hxy : cmpB x.node.path y.node.path < 0 := by have := cmpB_swap x.node.path y.node.path; omega
        refine List.pairwise_cons.2 ⟨fun p hp => ?_, h⟩
        rcases List.mem_cons.1 hp with rfl | hp
        · exact hxy
        · exact cmpB_trans hxy (h1 p hp)
theorem insM_len : ∀ (M : List Pl) (x : Pl), (insM M x).length ≤ M.length + 1
  | [], x => by simp [insM]
  | y :: r, x => by
    have ih := insM_len r x
    unfold insM
    split
    · simp; omega
    · split <;> simp
/-- All that the first slots tell. -/
def loadM (V : Nat → ByteArray) : Nat → List Pl
  | 0 => []
  | k + 1 => match dec (V (2 * k) ++ V (2 * k + 1)) with
    | some n => insM (loadM V k) ⟨k, n⟩
    | none => loadM V k
theorem loadM_ord (V : Nat → ByteArray) : ∀ k, Ord (loadM V k)
  | 0 => by simp [loadM, Ord]
  | k + 1 => by
    unfold loadM
    split
    · exact insM_ord _ _ (loadM_ord V k)
    · exact loadM_ord V k
theorem loadM_len (V : Nat → ByteArray) : ∀ k, (loadM V k).length ≤ k
  | 0 => by simp [loadM]
  | k + 1 => by
    have := loadM_len V k
    unfold loadM
    split
    · next n _ => have := insM_len (loadM V k) ⟨k, n⟩; omega
    · omega
theorem loadM_slot (V : Nat → ByteArray) : ∀ k, ∀ p ∈ loadM V k, p.slot < k
  | 0, p, hp => by simp [loadM] at hp
  | k + 1, p, hp => by
    unfold loadM at hp
    split at hp
    · rcases insM_mem _ _ _ hp with rfl | hp
      · exact Nat.lt_succ_self _
      · have := loadM_slot V k p hp; omega
    · have := loadM_slot V k p hp; omega

def LoadPost (w : World) (M : List Pl) (e : Ending) (w' : World) : Prop :=
  ∃ bm ev, e = .returned (.tuple #[.pointer (some ⟨bm, 0, none⟩), .int .i64 0]) ∧ MAt w' w.heap.size bm ev M ∧ Below w.heap.size w w'

set_option maxRecDepth 100000 in
set_option maxHeartbeats 6400000 in
theorem readSlots_ok (w : World) (bl bd bs : Nat) (pv lv : Value) (ps : List (Nat × ByteArray)) (br : Bool) (d : Dk) (V : Nat → ByteArray) (hl : LAt w bl bd pv ps br) (h : DAt w bd bs lv d) (hn : d.safe.length ≤ 4096) (hll : d.late.length ≤ 1000000) (hp : ps.length ≤ 80)
    (hV : ∀ i, i < 120 → getL d ps br ((i : Nat) : Int) = (V i, 0) ∧ (V i).size = 256) :
    Calls Tryz.prog 118 #[.pointer (some ⟨bl, 0, none⟩)] w (LoadPost w (loadM V 60)) := by
  have HV := hide hV
  clear hV
  go_enter Tryz.func118, Tryz.ntmps118
  go_wp2_with fail
  go_loopw [12] (fun i wr => ∃ (k : Nat) (ev : Value), k ≤ 60 ∧ i = .int .i64 k ∧ MAt wr w.heap.size w.heap.size ev (loadM V k) ∧ Below w.heap.size w wr) (fun i _ => 60 - (intOf i).toNat)
  case atStart =>
    refine ⟨0, .slice none 0 0, by omega, rfl, ⟨heap_alloc_new w _, World.ownsRow_nil _ _ _ _, Nat.le_refl _, by simp [Value.ownBlock]⟩, (Below.refl _ w).alloc (Nat.le_refl _) _⟩
  case round =>
    obtain ⟨k, ev, hk, rfl, hM, hb⟩ := hrel
    have hlb := hl.below hb
    have hdb := h.below hb
    by_cases hlt : k < 60
    · have hsz : (V (2 * k) ++ V (2 * k + 1)).size = 512 := by
        rw [ByteArray.size_append, ((unhide HV) _ (by omega)).2, ((unhide HV) _ (by omega)).2]
      have HM := hide hM
      have HB := hide hb
      clear hM hb
      go_wp2_with fail
      refine (readSlot_ok wr bl bd bs pv lv ps br d k V hlb hdb hn hll hp hlt (unhide HV)).mono ?_
      rintro e w1 ⟨rfl, hb1⟩
      obtain ⟨t, ht⟩ : ∃ t, t = V (2 * k) ++ V (2 * k + 1) := ⟨_, rfl⟩
      rw [← ht] at hsz ⊢
      have HT := hide ht
      clear ht
      go_wp2_with fail
      refine (decode_any w1 t hsz).mono ?_
      rintro e w2 ⟨m, rfl, hm, hb2⟩
      unfold ndV
      have hM2 := ((unhide HM).below hb1).below hb2
      have hB2 := ((unhide HB).trans (hb1.mono (unhide HB).size)).trans (hb2.mono (Nat.le_trans (unhide HB).size hb1.size))
      have hlen := loadM_len V k
      cases hd : dec t with
      | none =>
        have HD := hide hd
        rw [show (none : Option Nd).isSome = false from rfl]
        clear hd hm
        go_wp2_with fail
        go_roundw
        case rel =>
          refine ⟨k + 1, ev, by omega, by go_num, ?_, hB2.alloc hB2.size _⟩
          have e : loadM V (k + 1) = loadM V k := by
            rw [loadM, ← unhide HT, unhide HD]
          rw [e]
          exact hM2.below ((Below.refl _ _).alloc (Nat.le_refl _) _)
        case measure => simp [intOf]; omega
      | some n =>
        have hmn := hm n hd
        subst hmn
        have HD := hide hd
        rw [show (some m : Option Nd).isSome = true from rfl]
        clear hd hm
        have hM3 := hM2.below ((Below.refl _ w2).alloc (Nat.le_refl _) (.cells #[.string m.path, .int .i64 m.kind, .int .i64 m.mode, .int .i64 m.tag, .string m.data] 76))
        have hput := mput_any (w2.alloc (.cells #[.string m.path, .int .i64 m.kind, .int .i64 m.mode, .int .i64 m.tag, .string m.data] 76)) w.heap.size w.heap.size ev (loadM V k) ⟨k, m⟩ hM3 (by have := hB2.size; simp; omega) (loadM_ord V k) (by omega)
        unfold plV at hput
        have HP := hide hput
        clear hput
        go_wp2_with fail
        refine (unhide HP).mono ?_
        rintro e w3 ⟨ev3, rfl, hM4, st⟩
        go_wp2_with fail
        go_roundw
        case rel =>
          refine ⟨k + 1, ev3, by omega, by go_num, ?_, ?_⟩
          · have e : loadM V (k + 1) = insM (loadM V k) ⟨k, m⟩ := by
              rw [loadM, ← unhide HT, unhide HD]
            rw [e]
            exact hM4
          · have := DStep.below st (Nat.le_refl _) (Nat.le_refl _) (fun g hg => (hM3.row.lt g hg).1) (by have := hB2.size; simp; omega)
            exact (hB2.alloc hB2.size _).trans this
        case measure => simp [intOf]; omega
    · have hk' : k = 60 := by omega
      subst hk'
      go_wp2_with fail
      go_ret2
      exact ⟨_, ev, rfl, hM, hb⟩
end Go.Proofs.YtcbindgpbeaebaaGreatDoor
