import Derived.Test.YtcbindgpbeaebaaDoorNodeA
import Derived.BigRegion
namespace Go.Proofs.YtcbindgpbeaebaaDoor
open Go.RowKit Go.Deep
attribute [local go_sem ↓] Go.wp_at_zero Go.wp_at_succ

/-- The head of a slot's text. -/
def headL (n : Nd) : List UInt8 := [UInt8.ofNat n.kind.toNat, UInt8.ofNat (n.mode / 256).toNat, UInt8.ofNat (n.mode % 256).toNat, UInt8.ofNat n.tag.toNat, UInt8.ofNat n.path.size, UInt8.ofNat (n.data.size / 256), UInt8.ofNat (n.data.size % 256)]
/-- A node as a slot has it. -/
def enc (n : Nd) : ByteArray := ⟨(headL n).toArray⟩ ++ n.path ++ n.data
theorem u8_nat (x : Nat) (h : x < 256) : (UInt8.ofNat x).toNat = x := by simp [UInt8.toNat_ofNat', Nat.mod_eq_of_lt h]

set_option maxRecDepth 100000 in
set_option maxHeartbeats 6400000 in
theorem encode_any (w : World) (n : Nd) (hk : 0 ≤ n.kind ∧ n.kind < 256) (hm : 0 ≤ n.mode ∧ n.mode < 512) (ht : 0 ≤ n.tag ∧ n.tag < 256) (hp : n.path.size < 256) (hd : n.data.size ≤ 400) :
    Calls Tryd.prog 121 #[ndV n] w fun e w' => e = .returned (.string (enc n)) ∧ Below w.heap.size w w' := by
  obtain ⟨path, kind, mode, tag, data⟩ := n
  unfold ndV
  simp only at hk hm ht hp hd ⊢
  obtain ⟨hk0, hk1⟩ := hk
  obtain ⟨hm0, hm1⟩ := hm
  obtain ⟨ht0, ht1⟩ := ht
  go_enter Tryd.func121, Tryd.ntmps121
  go_wp2_with fail
  obtain ⟨W, hW⟩ : ∃ W, W = (w.alloc (.cells #[.string path, .int .i64 kind, .int .i64 mode, .int .i64 tag, .string data] 45)).alloc (.cells #[.int .u8 kind, .int .u8 (mode / 256), .int .u8 (mode % 256), .int .u8 tag, .int .u8 (path.size : Int), .int .u8 ((data.size : Int) / 256), .int .u8 ((data.size : Int) % 256)] 187) := ⟨_, rfl⟩
  have hB : Below w.heap.size w W := by rw [hW]; exact ((Below.refl _ w).alloc (Nat.le_refl _) _).alloc (by simp) _
  have b0 : W.heap[w.heap.size]? = some (.cells #[.string path, .int .i64 kind, .int .i64 mode, .int .i64 tag, .string data] 45 (0, 0)) := by
    rw [hW]
    exact (Below.heap_alloc _ _ _ (by simp)).trans (heap_alloc_new w _)
  have b1 : W.heap[w.heap.size + 1]? = some (.cells #[.int .u8 kind, .int .u8 (mode / 256), .int .u8 (mode % 256), .int .u8 tag, .int .u8 (path.size : Int), .int .u8 ((data.size : Int) / 256), .int .u8 ((data.size : Int) % 256)] 187 (0, 0)) := by
    rw [hW]
    exact heap_two' w _ _
  rw [← hW]
  clear hW
  have c0 : W.drew.cell? ⟨w.heap.size, 0, none⟩ = some (.string path) := by rw [cell_of_row W.drew _ _ _ _ _ b0]; rfl
  have c4 : W.drew.cell? ⟨w.heap.size, 4, none⟩ = some (.string data) := by rw [cell_of_row W.drew _ _ _ _ _ b0]; rfl
  obtain ⟨hd', hhd⟩ : ∃ l, l = headL ⟨path, kind, mode, tag, data⟩ := ⟨_, rfl⟩
  have hcv : (convert 82 9 (.slice (some ⟨w.heap.size + 1, 0, none⟩) 7 7)).run Tryd.prog W.drew = .ok (.string ⟨hd'.toArray⟩) W.drew := by
    have := run_convert_bytes_back (P := Tryd.prog) W.drew 82 9 5 ⟨w.heap.size + 1, 0, none⟩ 7 hd' Tryd.underlying82 Tryd.underlying5 Tryd.underlying9 (fun j hj => by
      have hadd : (⟨w.heap.size + 1, 0, none⟩ : Addr).add j = ⟨w.heap.size + 1, j, none⟩ := by unfold Addr.add; split <;> simp_all
      rw [hadd, cell_of_row W.drew _ _ _ _ _ b1]
      subst hhd
      have hj7 : j < 7 := hj
      match j, hj7 with
      | 0, _ => exact congrArg (fun x => some (Value.int .u8 x)) (show (kind : Int) = ((UInt8.ofNat kind.toNat).toNat : Int) by rw [u8_nat _ (by omega)]; omega)
      | 1, _ => exact congrArg (fun x => some (Value.int .u8 x)) (show (mode / 256 : Int) = ((UInt8.ofNat (mode / 256).toNat).toNat : Int) by rw [u8_nat _ (by omega)]; omega)
      | 2, _ => exact congrArg (fun x => some (Value.int .u8 x)) (show (mode % 256 : Int) = ((UInt8.ofNat (mode % 256).toNat).toNat : Int) by rw [u8_nat _ (by omega)]; omega)
      | 3, _ => exact congrArg (fun x => some (Value.int .u8 x)) (show (tag : Int) = ((UInt8.ofNat tag.toNat).toNat : Int) by rw [u8_nat _ (by omega)]; omega)
      | 4, _ => exact congrArg (fun x => some (Value.int .u8 x)) (show (path.size : Int) = ((UInt8.ofNat path.size).toNat : Int) by rw [u8_nat _ (by omega)])
      | 5, _ => exact congrArg (fun x => some (Value.int .u8 x)) (show ((data.size : Int) / 256 : Int) = ((UInt8.ofNat (data.size / 256)).toNat : Int) by rw [u8_nat _ (by omega)]; omega)
      | 6, _ => exact congrArg (fun x => some (Value.int .u8 x)) (show ((data.size : Int) % 256 : Int) = ((UInt8.ofNat (data.size % 256)).toNat : Int) by rw [u8_nat _ (by omega)]; omega))
    rw [hhd] at this ⊢
    exact this
  have hl7 : hd'.length = 7 := by rw [hhd]; rfl
  have n1 : ¬ (9223372036854775807 < hd'.length + path.size) := by omega
  have n2 : ¬ (9223372036854775807 < hd'.length + path.size + data.size) := by omega
  have HE := hide hhd
  clear b0 b1 hhd
  go_region
  go_wp2_with fail
  go_ret
  refine ⟨?_, hB.drew⟩
  rw [unhide HE]
  rfl
end Go.Proofs.YtcbindgpbeaebaaDoor
