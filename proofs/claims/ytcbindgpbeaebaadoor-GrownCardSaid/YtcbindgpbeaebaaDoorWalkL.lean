import Derived.Test.YtcbindgpbeaebaaDoorWalkK
import Derived.Deep.QuietTactic
import Derived.BigQuiet
namespace Go.Proofs.YtcbindgpbeaebaaDoor
open Go.RowKit Go.Deep
attribute [local go_sem ↓] Go.wp_at_zero Go.wp_at_succ

/-- The numbers, cell by cell. -/
def ncells (ps : List (Nat × ByteArray)) : List Value := ps.map fun p => .int .i64 (p.1 : Int)
theorem info_int : (Tryd.prog.info? 3).map (fun i => (i.zero, i.size, i.bytes)) = some (some (.int .i64 0), 1, 8) := by kernel_rfl

/-- A record that tells the numbers of these. -/
structure Tells (t : ByteArray) (ps : List (Nat × ByteArray)) : Prop where
  size : t.size = 256
  n : ∀ hh, (t[0]'hh).toNat = ps.length
  hi : ∀ i p hh, ps[i]? = some p → (t[1 + 2 * i]'hh).toNat = p.1 / 256
  lo : ∀ i p hh, ps[i]? = some p → (t[2 + 2 * i]'hh).toNat = p.1 % 256

theorem orb_all : ∀ (q : Fin 16) (r : Fin 256), bits BinOp.or IntKind.i64 ((q.val : Int) * 256) (r.val : Int) = (q.val : Int) * 256 + (r.val : Int) := by decide +kernel
theorem orb (a : Nat) (h : a < 4096) : bits BinOp.or IntKind.i64 ((a : Int) / 256 * 256) ((a : Int) % 256) = (a : Int) := by
  have := orb_all ⟨a / 256, by omega⟩ ⟨a % 256, by omega⟩
  simp only at this
  rw [show ((a : Int) / 256) = ((a / 256 : Nat) : Int) by omega, show ((a : Int) % 256) = ((a % 256 : Nat) : Int) by omega, this]
  omega

set_option maxRecDepth 100000 in
set_option maxHeartbeats 3200000 in
theorem recorded_any (w : World) (bl bd bs : Nat) (lv : Value) (d : Dk) (t : ByteArray) (ps : List (Nat × ByteArray)) (hp : w.cell? ⟨bl, 0, none⟩ = some (.pointer (some ⟨bd, 0, none⟩))) (h : DAt w bd bs lv d) (hn : d.safe.length ≤ 4096) (ht : Tells t ps) (hl : ps.length ≤ 80) (hb4 : ∀ p ∈ ps, 90 + p.1 < d.safe.length) :
    Calls Tryd.prog 95 #[.pointer (some ⟨bl, 0, none⟩), .string t] w fun e w' => ∃ v, e = .returned v ∧ w'.ownsRow w.heap.size 3 1 v ps.length (ncells ps) ∧ Below w.heap.size w w' := by
  obtain ⟨hsz, hn0, hhi, hlo⟩ := ht
  have HHI := hide hhi
  have HLO := hide hlo
  clear hhi hlo
  obtain ⟨i0, hi0, hz0, hz1, hz2⟩ := info_parts info_int
  go_enter Tryd.func95, Tryd.ntmps95
  go_wp2_with fail
  go_loopw [6, 15] (fun v i wr => ∃ k : Nat, k ≤ ps.length ∧ i = .int .i64 k ∧ wr.ownsRow w.heap.size 3 1 v k (ncells (ps.take k)) ∧ Below w.heap.size w wr) (fun _ i _ => ps.length - (intOf i).toNat)
  case atStart => exact ⟨0, Nat.zero_le _, rfl, World.ownsRow_nil _ _ _ _, Below.refl _ _⟩
  case round =>
    obtain ⟨k, hk, rfl, hown, hb⟩ := hrel
    by_cases hlt : k < ps.length
    · obtain ⟨p, hpk⟩ : ∃ p, ps[k]? = some p := ⟨ps[k], List.getElem?_eq_getElem hlt⟩
      have hp4 := hb4 p (List.mem_of_getElem? hpk)
      have e1 : (1 + 2 * (k : Int)).toNat = 1 + 2 * k := by omega
      have e2 : (2 + 2 * (k : Int)).toNat = 2 + 2 * k := by omega
      have g1 : ∀ hh, (t[(1 + 2 * (k : Int)).toNat]'hh).toNat = p.1 / 256 := by
        intro hh
        simp only [e1]
        exact (unhide HHI) k p _ hpk
      have g2 : ∀ hh, (t[(2 + 2 * (k : Int)).toNat]'hh).toNat = p.1 % 256 := by
        intro hh
        simp only [e2]
        exact (unhide HLO) k p _ hpk
      clear e1 e2
      have b1 : (0 : Int) ≤ 1 + 2 * (k : Int) := by omega
      have b2 : 1 + 2 * (k : Int) < 256 := by omega
      have b3 : (0 : Int) ≤ 2 + 2 * (k : Int) := by omega
      have b4 : 2 + 2 * (k : Int) < 256 := by omega
      have v1 : IntKind.i64.wrap (2 * (k : Int)) = 2 * (k : Int) := by rw [IntKind.wrap_i64]; omega
      have v2 : IntKind.i64.wrap (1 + 2 * (k : Int)) = 1 + 2 * (k : Int) := by rw [IntKind.wrap_i64]; omega
      have v3 : IntKind.i64.wrap (2 + 2 * (k : Int)) = 2 + 2 * (k : Int) := by rw [IntKind.wrap_i64]; omega
      have HP := hide hpk
      clear hpk
      have hsz' := hb.size
      have hor := orb p.1 (by omega)
      have hh : hasB d.safe.length (p.1 : Int) = true := by simp [hasB]; omega
      have HH := hide hh
      clear hh
      have hbd := hb.mono (B' := w.heap.size) (Nat.le_refl _)
      have pr : wr.drew.cell? ⟨bl, 0, none⟩ = some (.pointer (some ⟨bd, 0, none⟩)) := (hb.cell (p := ⟨bl, 0, none⟩) (World.block_lt_of_cell? w _ hp)).trans hp
      have dr := (h.below hb).drew
      go_wp2_with fail
      go_region
      go_wp2_with fail
      refine (has_any _ bl bd bs lv d (p.1 : Int) pr dr hn).mono ?_
      rintro e w1 ⟨rfl, rfl⟩
      rw [unhide HH]
      go_wp2_with (at_builtin; refine wpList_append_lies _ (by rfl) _ _ _ (by rfl) w.heap.size 3 i0 _ 1 8 Tryd.underlying37 hi0 hz0 hz1 hz2 rfl (by omega) _ k (ncells (ps.take k)) (by rfl) ((hown.alloc _).drew) ⟨wr.heap.size, 0, none⟩ 1 1 [.int .i64 (p.1 : Int)] (by rfl) (by rfl) (World.news_of_block (cs := #[.int .i64 (p.1 : Int)]) (t := 3) (fr := (0, 0)) (heap_alloc_new wr _)) (by simp [Value.oneCell']) (by omega) (by simp [maxLen]; omega) (by omega) (by simp; omega) (wr.heap.size + 1) (by simp) ?_; intro gg cap2 w2 hown1 hgrow hat hlt2)
      go_roundw
      case rel =>
        refine ⟨k + 1, by omega, by go_num, ?_, ?_⟩
        · rw [show ps.take (k + 1) = ps.take k ++ [p] by rw [List.take_add_one, unhide HP]; rfl, show ncells (ps.take k ++ [p]) = ncells (ps.take k) ++ [.int .i64 (p.1 : Int)] by simp [ncells]]
          exact hown1
        · exact ((hb.alloc hsz' _).drew).grown hgrow (by simp; omega) (fun q hq' => (hown.lt q hq').1)
      case measure => simp [intOf]; omega
    · have hk' : k = ps.length := by omega
      subst hk'
      rw [List.take_length] at hown
      obtain ⟨ao, cap, rfl⟩ : ∃ ao cap, u6 = .slice ao ps.length cap := by
        rcases hown.2 with ⟨h1, h2⟩ | ⟨g, cap, _, h1, _⟩
        · exact ⟨none, 0, by rw [h1, h2]⟩
        · exact ⟨_, cap, h1⟩
      go_wp2_with fail
      go_ret
      exact ⟨_, rfl, hown, hb⟩
end Go.Proofs.YtcbindgpbeaebaaDoor
