import Derived.Test.YtcbindgpbeaebaaWalkE
import Derived.Lib.BufferWrite
namespace Go.Proofs.Ytcbindgpbeaebaa
open Go.RowKit Go.Deep Go.Lib
attribute [local go_sem ↓] Go.wp_at_zero Go.wp_at_succ

/-- An array of 256 bytes 0, cell by cell. -/
def Z256 : Array Value := (List.replicate 256 (Value.int .u8 0)).toArray
theorem info_arr : (Try.prog.info? 81).map (fun i => i.zero) = some (some (.agg Z256)) := by kernel_rfl
theorem zero_arr (w : World) : (zeroValue 81).run Try.prog w = .ok (.agg Z256) w := by
  obtain ⟨i, hi, hz⟩ := Option.map_eq_some_iff.1 info_arr
  simp [zeroValue, typeInfo, hi, hz]
theorem info_u8s : (Try.prog.info? 5).map (·.size) = some 1 := by kernel_rfl

theorem alloc_setRow (w : World) (cs cs' : Array Value) (t : TypeId) : (w.alloc (.cells cs t (0, 0))).setRow w.heap.size cs' = w.alloc (.cells cs' t (0, 0)) := by
  simp only [World.setRow, World.alloc]
  congr 1
  apply Array.ext_getElem?
  intro i
  rw [Array.getElem?_modify]
  by_cases h : w.heap.size = i
  · subst h; simp
  · simp only [if_neg h]
    rw [Array.getElem?_push, Array.getElem?_push]
    simp [Ne.symm h]
theorem pad_list (s : ByteArray) : (pad s).data.toList = s.data.toList ++ List.replicate (256 - s.size) 0 := by
  rw [pad, ByteArray.data_append, Array.toList_append]
  rfl
theorem pad_len (s : ByteArray) (hs : s.size ≤ 256) : (pad s).data.toList.length = 256 := by
  rw [pad_list, List.length_append, List.length_replicate]
  show s.data.toList.length + _ = _
  rw [Array.length_toList]
  show s.size + _ = _
  omega
theorem Z256_size : Z256.size = 256 := by rw [Z256, List.size_toArray, List.length_replicate]

def bcs (s : ByteArray) : Array Value := (byteCells s.data.toList).toArray
set_option maxRecDepth 100000 in
theorem copy_whole (w : World) (s : ByteArray) (hs : s.size ≤ 256) :
    (Builtin.copy_ #[76, 9] 3 #[.slice (some ⟨w.heap.size, 0, none⟩) 256 256, .string s]).run Try.prog (w.alloc (.cells Z256 81)) = .ok (goInt s.size) (w.alloc (.cells (bcs (pad s)) 81)) := by
  have h := run_copy_row_string (P := Try.prog) (w.alloc (.cells Z256 81)) 76 9 3 5 w.heap.size 0 256 256 s Z256 81 Try.underlying76 info_u8s (heap_alloc_new w _) hs (by rw [Z256_size]; omega)
  rw [h, alloc_setRow]
  have e : (List.take 0 Z256.toList ++ byteCells s.data.toList ++ List.drop (0 + s.size) Z256.toList).toArray = bcs (pad s) := by
    rw [bcs, pad_list, List.take_zero, List.nil_append, Nat.zero_add]
    congr 1
    rw [byteCells, byteCells, List.map_append, List.map_replicate, Z256]
    congr 1
    rw [List.drop_replicate]
    rfl
  rw [e]
set_option maxRecDepth 100000 in
theorem conv_whole (w : World) (s : ByteArray) (hs : s.size ≤ 256) :
    (convert 76 9 (.slice (some ⟨w.heap.size, 0, none⟩) 256 256)).run Try.prog (w.alloc (.cells (bcs (pad s)) 81)) = .ok (.string (pad s)) (w.alloc (.cells (bcs (pad s)) 81)) := by
  have hl := pad_len s hs
  have h := run_convert_bytes_back (P := Try.prog) (w.alloc (.cells (bcs (pad s)) 81)) 76 9 5 ⟨w.heap.size, 0, none⟩ 256 (pad s).data.toList Try.underlying76 Try.underlying5 Try.underlying9 (fun j hj => by
    have hadd : (⟨w.heap.size, 0, none⟩ : Addr).add j = ⟨w.heap.size, j, none⟩ := by unfold Addr.add; split <;> simp_all
    rw [hadd, cell_of_row _ _ _ _ _ _ (heap_alloc_new w _)]
    rw [bcs, List.getElem?_toArray, byteCells, List.getElem?_map, List.getElem?_eq_getElem hj]
    rfl)
  rw [hl] at h
  exact h

set_option maxRecDepth 100000 in
set_option maxHeartbeats 1600000 in
theorem whole_any (w : World) (s : ByteArray) (hs : s.size ≤ 256) :
    Calls Try.prog 31 #[.string s] w fun e w' => e = .returned (.string (pad s)) ∧ ∃ o, w' = w.alloc o := by
  have hz := zero_arr
  have hcp := copy_whole w s hs
  have hcv := conv_whole w s hs
  go_enter Try.func31, Try.ntmps31
  go_wp2
  go_ret
  exact ⟨rfl, _, rfl⟩
end Go.Proofs.Ytcbindgpbeaebaa
