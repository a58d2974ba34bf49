import Derived.Test.YtcbindgpbeaebaaDoorWalkG
namespace Go.Proofs.YtcbindgpbeaebaaDoor
open Go.RowKit Go.Deep
attribute [local go_sem ↓] Go.wp_at_zero Go.wp_at_succ

/-- wal.record, byte by byte. -/
def recOf (n : Nat) (ps : List (Nat × ByteArray)) : List UInt8 := UInt8.ofNat n :: ps.flatMap fun p => [UInt8.ofNat (p.1 / 256), UInt8.ofNat p.1]
def u8s (l : List UInt8) : List Value := l.map fun b => Value.int .u8 (b.toNat : Int)
theorem recOf_len (n : Nat) (ps : List (Nat × ByteArray)) : (recOf n ps).length = 1 + 2 * ps.length := by
  induction ps with
  | nil => rfl
  | cons p r ih => simp [recOf] at *; omega
theorem recOf_snoc (n : Nat) (ps : List (Nat × ByteArray)) (p : Nat × ByteArray) : recOf n (ps ++ [p]) = recOf n ps ++ [UInt8.ofNat (p.1 / 256), UInt8.ofNat p.1] := by simp [recOf]
def recB (ps : List (Nat × ByteArray)) : ByteArray := ⟨(recOf ps.length ps).toArray⟩

def rcells (n : Nat) (ps : List (Nat × ByteArray)) : List Value := .int .u8 (n : Int) :: ps.flatMap fun p => [.int .u8 ((p.1 : Int) / 256), .int .u8 ((p.1 : Int) % 256)]
theorem rcells_snoc (n : Nat) (ps : List (Nat × ByteArray)) (p : Nat × ByteArray) : rcells n (ps ++ [p]) = rcells n ps ++ [.int .u8 ((p.1 : Int) / 256), .int .u8 ((p.1 : Int) % 256)] := by simp [rcells]
theorem rcells_eq (n : Nat) (hn : n < 256) : ∀ (ps : List (Nat × ByteArray)), (∀ p ∈ ps, p.1 < 4096) → rcells n ps = u8s (recOf n ps) := by
  intro ps
  have h0 : u8s (recOf n ps) = .int .u8 (n : Int) :: u8s (ps.flatMap fun p => [UInt8.ofNat (p.1 / 256), UInt8.ofNat p.1]) := by
    simp only [recOf, u8s, List.map_cons]
    congr 2
    simp [UInt8.toNat_ofNat']; omega
  rw [h0, rcells]
  intro h
  congr 1
  induction ps with
  | nil => rfl
  | cons p r ih =>
    have hp := h p (by simp)
    have ih' := ih (by simp only [recOf, u8s, List.map_cons]; congr 2; simp; omega) fun q hq => h q (by simp [hq])
    rw [List.flatMap_cons, ih', List.flatMap_cons]
    simp only [u8s, List.map_append, List.map_cons, List.map_nil]
    congr 2
    · congr 1; simp; omega

set_option maxRecDepth 100000 in
set_option maxHeartbeats 3200000 in
theorem record_any (w : World) (qv : Value) (ps : List (Nat × ByteArray)) (hq : w.ownsRow 0 159 2 qv ps.length (flat ps)) (hl : ps.length ≤ 80) (hb4 : ∀ p ∈ ps, p.1 < 4096) :
    Calls Tryd.prog 116 #[qv] w fun e w' => e = .returned (.string (recB ps)) ∧ Below w.heap.size w w' := by
  obtain ⟨ao, cap, hqv⟩ := ownsRow_form hq
  subst hqv
  obtain ⟨i0, hi0, hz0, hz1, hz2⟩ := info_parts info_u8
  go_enter Tryd.func116, Tryd.ntmps116
  go_wp2_with fail
  go_loopw [3, 12] (fun v i wr => ∃ k : Nat, k ≤ ps.length ∧ i = .int .i64 k ∧ wr.ownsRow w.heap.size 5 1 v (1 + 2 * k) (rcells ps.length (ps.take k)) ∧ Below w.heap.size w wr) (fun _ i _ => ps.length - (intOf i).toNat)
  case atStart =>
    refine ⟨0, Nat.zero_le _, rfl, ?_, (Below.refl _ _).alloc (Nat.le_refl _) _⟩
    exact ⟨rfl, .inr ⟨w.heap.size, 1, #[.int .u8 (ps.length : Int)], rfl, Nat.le_refl _, heap_alloc_new w _, by omega, by simp [maxLen], rfl, rfl⟩⟩
  case round =>
    obtain ⟨k, hk, rfl, hown, hb⟩ := hrel
    by_cases hlt : k < ps.length
    · obtain ⟨p, hp⟩ : ∃ p, ps[k]? = some p := ⟨ps[k], List.getElem?_eq_getElem hlt⟩
      obtain ⟨g, capx, he, cA, cB, lg⟩ := row_at hq k p hp
      have hao : ao = some ⟨g, 0, none⟩ := by
        simp only [Value.slice.injEq] at he
        exact he.1
      subst hao
      clear he
      have cA' := (hb.cell (p := ⟨g, k * 2, none⟩) lg).trans cA
      have cB' := (hb.cell (p := ⟨g, k * 2 + 1, none⟩) lg).trans cB
      have hp4 := hb4 p (List.mem_of_getElem? hp)
      have HP := hide hp
      clear hp
      have i0' : (0 : Int) ≤ (k : Int) := Int.natCast_nonneg _
      have i1 : (k : Int) < (ps.length : Int) := by omega
      have hsz := hb.size
      go_wp2_with (at_builtin; refine wpList_append_lies _ (by rfl) _ _ _ (by rfl) w.heap.size 5 i0 _ 1 1 Tryd.underlying82 hi0 hz0 hz1 hz2 rfl (by omega) _ (1 + 2 * k) (rcells ps.length (ps.take k)) (by rfl) ((hown.alloc _).alloc _) ⟨wr.heap.size + 1, 0, none⟩ 2 2 [.int .u8 ((p.1 : Int) / 256), .int .u8 ((p.1 : Int) % 256)] (by rfl) (by rfl) (World.news_of_block (cs := #[.int .u8 ((p.1 : Int) / 256), .int .u8 ((p.1 : Int) % 256)]) (t := 5) (fr := (0, 0)) (heap_two' _ _ _)) (by simp [Value.oneCell']) (by omega) (by simp [maxLen]; omega) (by omega) (by simp; omega) (wr.heap.size + 2) (by simp) ?_; intro gg cap2 w2 hown1 hgrow hat hlt2)
      go_roundw
      case rel =>
        refine ⟨k + 1, by omega, by go_num, ?_, ?_⟩
        · rw [show ps.take (k + 1) = ps.take k ++ [p] by rw [List.take_add_one, unhide HP]; rfl, rcells_snoc, show 1 + 2 * (k + 1) = 1 + 2 * k + 2 by omega]
          exact hown1
        · exact ((hb.alloc hsz _).alloc (by simp; omega) _).grown hgrow (by simp; omega) (fun q hq' => (hown.lt q hq').1)
      case measure => simp [intOf]; omega
    · have hk' : k = ps.length := by omega
      subst hk'
      rw [List.take_length, rcells_eq _ (by omega) _ hb4] at hown
      obtain ⟨g, cap2, hv, _, hg⟩ := hown.form (by omega)
      subst hv
      have hcv : (convert 82 9 (.slice (some ⟨g, 0, none⟩) (1 + 2 * ps.length) cap2)).run Tryd.prog wr = .ok (.string (recB ps)) wr := by
        have h := run_convert_bytes_back (P := Tryd.prog) wr 82 9 5 ⟨g, 0, none⟩ cap2 (recOf ps.length ps) Tryd.underlying82 Tryd.underlying5 Tryd.underlying9 (fun j hj => by
          exact hown.cells (g := g) rfl j _ (by rw [u8s, List.getElem?_map, List.getElem?_eq_getElem hj]; rfl))
        rw [recOf_len] at h
        exact h
      go_wp2_with fail
      go_ret
      exact ⟨rfl, hb⟩
end Go.Proofs.YtcbindgpbeaebaaDoor
