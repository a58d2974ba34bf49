import Derived.Test.YtcbindgpbeaebaaDoorBaseC
namespace Go.Proofs.YtcbindgpbeaebaaDoor
open Go.RowKit Go.Deep
attribute [local go_sem ↓] Go.wp_at_zero Go.wp_at_succ

def zNd : Nd := ⟨⟨#[]⟩, 0, 0, 0, ⟨#[]⟩⟩
def rdOf : Option Pl → Value
  | some p => .tuple #[ndV p.node, .int .i64 0]
  | none => .tuple #[ndV zNd, .int .i64 4]
/-- What Read answers. -/
def rdRes (q : ByteArray) (M : List Pl) : Value := if okPath q = true then rdOf (getM M q) else .tuple #[ndV zNd, .int .i64 1]

set_option maxRecDepth 100000 in
set_option maxHeartbeats 6400000 in
theorem read_load (w : World) (bb : Nat) (q : ByteArray) (M : List Pl) (hq : q.size ≤ 4611686018427387904) (ho : Ord M) (hM : M.length ≤ 1000000) (hload : ∀ w1, Below w.heap.size w w1 → Calls Tryd.prog 35 #[.pointer (some ⟨bb, 0, none⟩)] w1 (LoadPost w1 M)) :
    Calls Tryd.prog 17 #[.pointer (some ⟨bb, 0, none⟩), .string q] w fun e w' => e = .returned (rdRes q M) ∧ Below w.heap.size w w' := by
  obtain ⟨W, hW⟩ : ∃ W, W = w.alloc (.cells #[.string ⟨#[]⟩, .int .i64 0, .int .i64 0, .int .i64 0, .string ⟨#[]⟩] 45) := ⟨_, rfl⟩
  have b0 : W.heap[w.heap.size]? = some (.cells #[.string ⟨#[]⟩, .int .i64 0, .int .i64 0, .int .i64 0, .string ⟨#[]⟩] 45 (0, 0)) := by rw [hW]; exact heap_alloc_new w _
  have hBW : Below w.heap.size w W := by rw [hW]; exact (Below.refl _ w).alloc (Nat.le_refl _) _
  have hsz : W.heap.size = w.heap.size + 1 := by rw [hW]; simp
  have HF := hide fun (X : World) (hX : X.heap[w.heap.size]? = W.heap[w.heap.size]?) => And.intro (five_cells (hX.trans b0)) (five_frozen (hX.trans b0))
  have hV := Valid_any W q hq
  have HL := hide hload
  clear hload
  cases hok : okPath q with
  | false =>
    rw [hok] at hV
    have HO := hide (show rdRes q M = .tuple #[ndV zNd, .int .i64 1] by unfold rdRes; rw [hok]; rfl)
    clear hok
    go_enter Tryd.func17, Tryd.ntmps17
    go_wp2_with fail
    rw [← hW]
    refine hV.mono ?_
    rintro e w1 ⟨rfl, o, rfl⟩
    obtain ⟨⟨r0, r1, r2, r3, r4⟩, s0, s1, s2, s3, s4⟩ := (unhide HF) (W.alloc o) (Below.heap_alloc _ _ _ (by omega))
    go_wp2_with fail
    refine bodyPost_ret (v := .tuple #[ndV zNd, .int .i64 1]) ?_ rfl ⟨by rw [unhide HO], ?_⟩
    · simp [results, Tryd.f17, go_sem, ndV, zNd]
    · exact ((Below.refl _ w).alloc (Nat.le_refl _) _).alloc (by simp) _
  | true =>
    rw [hok] at hV
    obtain ⟨r, hr⟩ : ∃ r, getM M q = r := ⟨_, rfl⟩
    have HO := hide (show rdRes q M = rdOf r by unfold rdRes; rw [hok, hr]; rfl)
    clear hok
    have HMG := hide fun (w2 : World) (B bm : Nat) (ev : Value) (h : MAt w2 B bm ev M) => (hr ▸ mget_any w2 B bm ev M q h ho hM)
    have HW := hide hW
    clear hr hW
    go_enter Tryd.func17, Tryd.ntmps17
    go_wp2_with fail
    rw [← unhide HW]
    refine hV.mono ?_
    rintro e w1 ⟨rfl, o, hw1⟩
    have hb1 : Below w.heap.size w w1 := by rw [hw1]; exact hBW.alloc (by omega) _
    have hz1 : w.heap.size < w1.heap.size := by rw [hw1]; simp; omega
    have hk1 : w1.heap[w.heap.size]? = W.heap[w.heap.size]? := by rw [hw1]; exact Below.heap_alloc _ _ _ (by omega)
    clear hw1
    go_wp2_with fail
    refine ((unhide HL) w1 hb1).mono ?_
    rintro e w2 ⟨bm, ev, rfl, hm2, hb2⟩
    have hz2 := hb2.size
    have hk2 := (hb2.block _ hz1).trans hk1
    go_wp2_with fail
    refine ((unhide HMG) w2 w1.heap.size bm ev hm2).mono ?_
    rintro e w3 ⟨rfl, hb3⟩
    have hz3 := hb3.size
    have hk3 := (hb3.block _ (by omega)).trans hk2
    have hb03 : Below w.heap.size w w3 := (hb1.trans (hb2.mono (by omega))).trans (hb3.mono (by omega))
    cases r with
    | none =>
      obtain ⟨⟨r0, r1, r2, r3, r4⟩, s0, s1, s2, s3, s4⟩ := (unhide HF) (w3.alloc (.cells #[.int .i64 0, .string ⟨#[]⟩, .int .i64 0, .int .i64 0, .int .i64 0, .string ⟨#[]⟩] 88)) ((Below.heap_alloc _ _ _ (by omega)).trans hk3)
      unfold optPl zPl
      go_wp2_with fail
      refine bodyPost_ret (v := .tuple #[ndV zNd, .int .i64 4]) ?_ rfl ⟨by rw [unhide HO]; rfl, ?_⟩
      · simp [results, Tryd.f17, go_sem, ndV, zNd, r0, r1, r2, r3, r4]
      · exact (((((hb03.alloc (by omega) _).setCell (p := ⟨w.heap.size, 0, none⟩) (Nat.le_refl _) _).setCell (p := ⟨w.heap.size, 1, none⟩) (Nat.le_refl _) _).setCell (p := ⟨w.heap.size, 2, none⟩) (Nat.le_refl _) _).setCell (p := ⟨w.heap.size, 3, none⟩) (Nat.le_refl _) _).setCell (p := ⟨w.heap.size, 4, none⟩) (Nat.le_refl _) _
    | some p =>
      obtain ⟨⟨r0, r1, r2, r3, r4⟩, s0, s1, s2, s3, s4⟩ := (unhide HF) (w3.alloc (.cells #[.int .i64 (p.slot : Int), .string p.node.path, .int .i64 p.node.kind, .int .i64 p.node.mode, .int .i64 p.node.tag, .string p.node.data] 88)) ((Below.heap_alloc _ _ _ (by omega)).trans hk3)
      unfold optPl plV
      go_wp2_with fail
      refine bodyPost_ret (v := .tuple #[ndV p.node, .int .i64 0]) ?_ rfl ⟨by rw [unhide HO]; rfl, ?_⟩
      · simp [results, Tryd.f17, go_sem, ndV, r0, r1, r2, r3, r4]
      · exact (((((hb03.alloc (by omega) _).setCell (p := ⟨w.heap.size, 0, none⟩) (Nat.le_refl _) _).setCell (p := ⟨w.heap.size, 1, none⟩) (Nat.le_refl _) _).setCell (p := ⟨w.heap.size, 2, none⟩) (Nat.le_refl _) _).setCell (p := ⟨w.heap.size, 3, none⟩) (Nat.le_refl _) _).setCell (p := ⟨w.heap.size, 4, none⟩) (Nat.le_refl _) _
end Go.Proofs.YtcbindgpbeaebaaDoor
