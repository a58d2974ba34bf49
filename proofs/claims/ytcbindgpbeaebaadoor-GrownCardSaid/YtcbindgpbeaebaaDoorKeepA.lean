import Derived.Test.YtcbindgpbeaebaaDoorBaseF
namespace Go.Proofs.YtcbindgpbeaebaaDoor
open Go.RowKit Go.Deep
attribute [local go_sem ↓] Go.wp_at_zero Go.wp_at_succ

/-- The node of the law. -/
def fullP (i : Nat) : ByteArray := ⟨#[100, 47, UInt8.ofNat (97 + i % 26), UInt8.ofNat (97 + i / 26)]⟩
def fullD (i c : Nat) : List UInt8 := (List.range 400).map fun k => UInt8.ofNat ((c + i + k) % 256)
def fullN (i c : Nat) : Nd := ⟨fullP i, 1, ((c % 512 : Nat) : Int), ((c % 256 : Nat) : Int), ⟨(fullD i c).toArray⟩⟩

theorem fullD_len (i c : Nat) : (fullD i c).length = 400 := by simp [fullD]
def FullRel (w : World) (i c k : Nat) (wr : World) : Prop :=
  ∃ cs : Array Value, wr.heap[w.heap.size + 1]? = some (.cells cs 5 (0, 0)) ∧ cs.size = 400 ∧ (∀ j, j < k → cs[j]? = some (.int .u8 (((c : Int) + i + j) % 256))) ∧
    wr.heap[w.heap.size]? = some (.cells #[.string ⟨#[]⟩, .int .i64 0, .int .i64 0, .int .i64 0, .string ⟨#[]⟩] 45 (0, 0)) ∧ Below w.heap.size w wr ∧ wr.heap.size = w.heap.size + 2

set_option maxRecDepth 100000 in
set_option maxHeartbeats 6400000 in
theorem full_any (w : World) (i c : Nat) (hi : i < 59) (hc : c ≤ 1048578) :
    Calls Tryd.prog 16 #[.int .i64 (i : Int), .int .i64 (c : Int)] w fun e w' => e = .returned (ndV (fullN i c)) ∧ Below w.heap.size w w' := by
  obtain ⟨i0, hi0, hz0, hz1, hz2⟩ := info_parts info_u8
  obtain ⟨C, hC⟩ : ∃ C, C = madeCells (Value.int .u8 0).cells 400 := ⟨_, rfl⟩
  have hCs : C.size = 400 := by rw [hC]; exact size_madeCells _ _
  have hmk : ∀ w : World, (Instr.makeSlice 82 (.int .i64 400) (.int .i64 400)).run Tryd.prog w = .ok (.slice (some ⟨w.heap.size, 0, none⟩) 400 400) (w.alloc (.cells C 5)) := fun w => by
    have hr := run_make (P := Tryd.prog) w 82 5 i0 (.int .u8 0) Tryd.underlying82 hi0 hz0 .i64 .i64 400 400 (by omega) (by omega) (by rw [hz2]; omega) (by omega)
    rw [hz1] at hr
    rw [hC]
    exact hr
  clear hC
  obtain ⟨W, hW⟩ : ∃ W, W = (w.alloc (.cells #[.string ⟨#[]⟩, .int .i64 0, .int .i64 0, .int .i64 0, .string ⟨#[]⟩] 45)).alloc (.cells C 5) := ⟨_, rfl⟩
  have rel0 : FullRel w i c 0 W := by
    refine ⟨C, ?_, hCs, fun j hj => by omega, ?_, ?_, ?_⟩
    · rw [hW]; exact heap_two' w _ _
    · rw [hW]; exact (Below.heap_alloc _ _ _ (by simp)).trans (heap_alloc_new w _)
    · rw [hW]; exact ((Below.refl _ w).alloc (Nat.le_refl _) _).alloc (by simp) _
    · rw [hW]; simp
  go_enter Tryd.func16, Tryd.ntmps16
  go_wp2_with fail
  rw [← hW]
  clear hW hCs
  go_loopw [6] (fun x wr => ∃ k : Nat, k ≤ 400 ∧ x = .int .i64 k ∧ FullRel w i c k wr) (fun x _ => 400 - (intOf x).toNat)
  case atStart => exact ⟨0, Nat.zero_le _, rfl, rel0⟩
  case round =>
    obtain ⟨k, hk, rfl, cs, b1, hcs, hat, b0, hb, hsz⟩ := hrel
    by_cases hlt : k < 400
    · have i1 : (k : Int) < 400 := by omega
      have hcell : wr.cell? ⟨w.heap.size + 1, k, none⟩ = cs[k]? := cell_of_row wr _ _ _ _ _ b1
      rw [Array.getElem?_eq_getElem (by omega)] at hcell
      have hfz : wr.frozen? ⟨w.heap.size + 1, k, none⟩ = false := frozen_of_row wr _ _ _ _ b1
      go_wp2_with fail
      go_roundw
      case rel =>
        refine ⟨k + 1, by omega, by simp, cs.setIfInBounds k (.int .u8 (((c : Int) + i + k) % 256)), heap_setCell_same wr _ k cs _ _ b1, by simpa using hcs, fun j hj => ?_, ?_, hb.setCell (p := ⟨w.heap.size + 1, k, none⟩) (by show w.heap.size ≤ w.heap.size + 1; omega) _, by simpa [World.setCell] using hsz⟩
        · rw [Array.getElem?_setIfInBounds]
          by_cases e : k = j
          · subst e; rw [if_pos rfl, if_pos (by omega)]
          · rw [if_neg e]; exact hat j (by omega)
        · exact (Below.heap_setCell _ _ _ _ (by show w.heap.size ≠ w.heap.size + 1; omega)).trans b0
      case measure => simp [intOf]; omega
    · have hk4 : k = 400 := by omega
      subst hk4
      obtain ⟨X, hX⟩ : ∃ X, X = wr.alloc (.cells #[.int .u8 (97 + (i : Int) % 26), .int .u8 (97 + (i : Int) / 26)] 5) := ⟨_, rfl⟩
      have bX : X.heap[w.heap.size + 2]? = some (.cells #[.int .u8 (97 + (i : Int) % 26), .int .u8 (97 + (i : Int) / 26)] 5 (0, 0)) := by rw [hX, ← hsz]; exact heap_alloc_new wr _
      have b1X : X.heap[w.heap.size + 1]? = some (.cells cs 5 (0, 0)) := by rw [hX]; exact (Below.heap_alloc _ _ _ (by omega)).trans b1
      have b0X : X.heap[w.heap.size]? = some (.cells #[.string ⟨#[]⟩, .int .i64 0, .int .i64 0, .int .i64 0, .string ⟨#[]⟩] 45 (0, 0)) := by rw [hX]; exact (Below.heap_alloc _ _ _ (by omega)).trans b0
      have hbX : Below w.heap.size w X := by rw [hX]; exact hb.alloc (by omega) _
      have hadd : ∀ b j : Nat, (⟨b, 0, none⟩ : Addr).add j = ⟨b, j, none⟩ := fun b j => by unfold Addr.add; split <;> simp_all
      have hcv1 : (convert 82 9 (.slice (some ⟨w.heap.size + 2, 0, none⟩) 2 2)).run Tryd.prog X = .ok (.string ⟨[UInt8.ofNat (97 + i % 26), UInt8.ofNat (97 + i / 26)].toArray⟩) X :=
        run_convert_bytes_back (P := Tryd.prog) X 82 9 5 ⟨w.heap.size + 2, 0, none⟩ 2 [UInt8.ofNat (97 + i % 26), UInt8.ofNat (97 + i / 26)] Tryd.underlying82 Tryd.underlying5 Tryd.underlying9 (fun j hj => by
          rw [hadd, cell_of_row X _ _ _ _ _ bX]
          have hj2 : j < 2 := hj
          match j, hj2 with
          | 0, _ => exact congrArg (fun x => some (Value.int .u8 x)) (show (97 + (i : Int) % 26 : Int) = ((UInt8.ofNat (97 + i % 26)).toNat : Int) by rw [u8_nat _ (by omega)]; omega)
          | 1, _ => exact congrArg (fun x => some (Value.int .u8 x)) (show (97 + (i : Int) / 26 : Int) = ((UInt8.ofNat (97 + i / 26)).toNat : Int) by rw [u8_nat _ (by omega)]; omega))
      have hcv2 : (convert 82 9 (.slice (some ⟨w.heap.size + 1, 0, none⟩) 400 400)).run Tryd.prog X = .ok (.string ⟨(fullD i c).toArray⟩) X := by
        have := run_convert_bytes_back (P := Tryd.prog) X 82 9 5 ⟨w.heap.size + 1, 0, none⟩ 400 (fullD i c) Tryd.underlying82 Tryd.underlying5 Tryd.underlying9 (fun j hj => by
          have hj4 : j < 400 := by rw [fullD_len] at hj; exact hj
          rw [hadd, cell_of_row X _ _ _ _ _ b1X, hat j hj4]
          simp only [fullD, List.getElem_map, List.getElem_range]
          rw [u8_nat _ (by omega)]
          congr 2)
        rw [fullD_len] at this
        exact this
      obtain ⟨D, hD⟩ : ∃ D, D = (⟨(fullD i c).toArray⟩ : ByteArray) := ⟨_, rfl⟩
      obtain ⟨q, hq⟩ : ∃ q, q = (⟨[UInt8.ofNat (97 + i % 26), UInt8.ofNat (97 + i / 26)].toArray⟩ : ByteArray) := ⟨_, rfl⟩
      have hqs : q.size = 2 := by rw [hq]; rfl
      rw [← hD] at hcv2
      rw [← hq] at hcv1
      have n1 : ¬ (9223372036854775807 < 2 + q.size) := by omega
      obtain ⟨⟨r0, r1, r2, r3, r4⟩, s0, s1, s2, s3, s4⟩ := And.intro (five_cells b0X) (five_frozen b0X)
      obtain ⟨⟨p0, p1, p2, p3, p4⟩, t0, t1, t2, t3, t4⟩ := And.intro (five_cells b0) (five_frozen b0)
      have HN := hide (show fullN i c = ⟨(⟨#[100, 47]⟩ : ByteArray) ++ q, 1, (c : Int) % 512, (c : Int) % 256, D⟩ by
        unfold fullN
        rw [← hD, hq]
        congr 1)
      have HB0 := hide b0
      clear bX b1X b0X hD hq b1 b0 hat
      rw [hX] at hcv1 hcv2 r0 r1 r2 r3 r4 s0 s1 s2 s3 s4 hbX
      go_wp2_with fail
      obtain ⟨Z, hZ⟩ : ∃ Z, Z = (((((wr.setCell ⟨w.heap.size, 0, none⟩ (.string ((⟨#[100, 47]⟩ : ByteArray) ++ q))).setCell ⟨w.heap.size, 1, none⟩ (.int .i64 1)).setCell ⟨w.heap.size, 2, none⟩ (.int .i64 ((c : Int) % 512))).setCell ⟨w.heap.size, 3, none⟩ (.int .i64 ((c : Int) % 256))).setCell ⟨w.heap.size, 4, none⟩ (.string D)).alloc (.cells #[.int .u8 (97 + (i : Int) % 26), .int .u8 (97 + (i : Int) / 26)] 5) := ⟨_, rfl⟩
      have bZ : Z.heap[w.heap.size]? = some (.cells #[.string ((⟨#[100, 47]⟩ : ByteArray) ++ q), .int .i64 1, .int .i64 ((c : Int) % 512), .int .i64 ((c : Int) % 256), .string D] 45 (0, 0)) := by
        rw [hZ, Below.heap_alloc _ _ _ (by simp [World.setCell]; omega)]
        exact heap_setCell_same _ _ 4 _ _ _ (heap_setCell_same _ _ 3 _ _ _ (heap_setCell_same _ _ 2 _ _ _ (heap_setCell_same _ _ 1 _ _ _ (heap_setCell_same _ _ 0 _ _ _ (unhide HB0)))))
      have hbZ : Below w.heap.size w Z := by
        rw [hZ]
        exact (((((hb.setCell (p := ⟨w.heap.size, 0, none⟩) (Nat.le_refl _) _).setCell (p := ⟨w.heap.size, 1, none⟩) (Nat.le_refl _) _).setCell (p := ⟨w.heap.size, 2, none⟩) (Nat.le_refl _) _).setCell (p := ⟨w.heap.size, 3, none⟩) (Nat.le_refl _) _).setCell (p := ⟨w.heap.size, 4, none⟩) (Nat.le_refl _) _).alloc (by simp [World.setCell]; omega) _
      rw [← hZ]
      obtain ⟨z0, z1, z2, z3, z4⟩ := five_cells bZ
      refine bodyPost_ret (v := ndV ⟨(⟨#[100, 47]⟩ : ByteArray) ++ q, 1, (c : Int) % 512, (c : Int) % 256, D⟩) ?_ rfl ⟨by rw [unhide HN], ?_⟩
      · simp [results, Tryd.f16, go_sem, ndV, z0, z1, z2, z3, z4]
      · exact hbZ
end Go.Proofs.YtcbindgpbeaebaaDoor
