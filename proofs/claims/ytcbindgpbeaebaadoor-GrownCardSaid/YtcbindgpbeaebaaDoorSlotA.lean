import Derived.Test.YtcbindgpbeaebaaDoorNodeB
import Derived.Test.YtcbindgpbeaebaaDoorNodeC
import Derived.Test.YtcbindgpbeaebaaDoorWalkP
import Derived.Test.YtcbindgpbeaebaaDoorPureB
namespace Go.Proofs.YtcbindgpbeaebaaDoor
open Go.RowKit Go.Deep
attribute [local go_sem ↓] Go.wp_at_zero Go.wp_at_succ

theorem nil_app (s : ByteArray) : (⟨#[]⟩ : ByteArray) ++ s = s := by
  apply ByteArray.ext
  simp

set_option maxRecDepth 100000 in
set_option maxHeartbeats 3200000 in
theorem readSlot_dead (w : World) (bl bd bs : Nat) (pv lv : Value) (ps : List (Nat × ByteArray)) (br : Bool) (d : Dk) (slot : Nat) (hl : LAt w bl bd pv ps br) (h : DAt w bd bs lv d) (hn : d.safe.length ≤ 4096) (hll : d.late.length ≤ 1000000) (hp : ps.length ≤ 80) (hs : slot < 60)
    (hg : getL d ps br ((2 * slot : Nat) : Int) = (⟨#[]⟩, 9)) :
    Calls Tryd.prog 79 #[.pointer (some ⟨bl, 0, none⟩), .int .i64 (slot : Int)] w fun e w' => e = .returned (.tuple #[.string ⟨#[]⟩, .int .i64 9]) ∧ Below w.heap.size w w' := by
  have e0 : (slot : Int) * 2 = ((2 * slot : Nat) : Int) := by omega
  have HG := hide hg
  clear hg
  go_enter Tryd.func79, Tryd.ntmps79
  go_wp2_with fail
  go_loopw [10] (fun i wr => i = .int .i64 0 ∧ wr = w) (fun _ _ => 0)
  case atStart => exact ⟨rfl, rfl⟩
  case round =>
    obtain ⟨rfl, rfl⟩ := hrel
    go_wp2_with fail
    refine (get_any wr bl bd bs pv lv ps br d ((2 * slot : Nat) : Int) hl h hn hll hp).mono ?_
    rintro e w1 ⟨rfl, hb⟩
    rw [unhide HG]
    go_wp2_with fail
    go_ret2
    exact ⟨rfl, hb⟩

set_option maxRecDepth 100000 in
set_option maxHeartbeats 3200000 in
theorem readSlot_ok (w : World) (bl bd bs : Nat) (pv lv : Value) (ps : List (Nat × ByteArray)) (br : Bool) (d : Dk) (slot : Nat) (V : Nat → ByteArray) (hl : LAt w bl bd pv ps br) (h : DAt w bd bs lv d) (hn : d.safe.length ≤ 4096) (hll : d.late.length ≤ 1000000) (hp : ps.length ≤ 80) (hs : slot < 60)
    (hV : ∀ i, i < 120 → getL d ps br ((i : Nat) : Int) = (V i, 0) ∧ (V i).size = 256) :
    Calls Tryd.prog 79 #[.pointer (some ⟨bl, 0, none⟩), .int .i64 (slot : Int)] w fun e w' => e = .returned (.tuple #[.string (V (2 * slot) ++ V (2 * slot + 1)), .int .i64 0]) ∧ Below w.heap.size w w' := by
  have e0 : (slot : Int) * 2 = ((2 * slot : Nat) : Int) := by omega
  have HV := hide hV
  clear hV
  go_enter Tryd.func79, Tryd.ntmps79
  go_wp2_with fail
  go_loopw [6, 10] (fun t i wr => ∃ k : Nat, k ≤ 2 ∧ i = .int .i64 k ∧ t = .string (if k = 0 then ⟨#[]⟩ else if k = 1 then V (2 * slot) else V (2 * slot) ++ V (2 * slot + 1)) ∧ Below w.heap.size w wr) (fun _ i _ => 2 - (intOf i).toNat)
  case atStart => exact ⟨0, by omega, rfl, rfl, Below.refl _ _⟩
  case round =>
    obtain ⟨k, hk, rfl, rfl, hb⟩ := hrel
    have hl1 := hl.below hb
    have h1 := h.below hb
    rcases (by omega : k = 0 ∨ k = 1 ∨ k = 2) with rfl | rfl | rfl
    · obtain ⟨g0, z0⟩ := (unhide HV) (2 * slot) (by omega)
      have HG := hide g0
      clear g0
      go_wp2_with fail
      refine (get_any wr bl bd bs pv lv ps br d ((2 * slot : Nat) : Int) hl1 h1 hn hll hp).mono ?_
      rintro e w1 ⟨rfl, hb1⟩
      rw [unhide HG]
      go_wp2_with fail
      go_roundw
      case rel => exact ⟨1, by omega, by go_num, by simp [nil_app], hb.trans (hb1.mono hb.size)⟩
      case measure => simp [intOf]
    · obtain ⟨g0, z0⟩ := (unhide HV) (2 * slot + 1) (by omega)
      have y0 := ((unhide HV) (2 * slot) (by omega)).2
      have e1 : ((2 * slot : Nat) : Int) + 1 = ((2 * slot + 1 : Nat) : Int) := by omega
      have HG := hide g0
      clear g0
      go_wp2_with fail
      refine (get_any wr bl bd bs pv lv ps br d ((2 * slot + 1 : Nat) : Int) hl1 h1 hn hll hp).mono ?_
      rintro e w1 ⟨rfl, hb1⟩
      rw [unhide HG]
      go_wp2_with fail
      go_roundw
      case rel => exact ⟨2, by omega, by go_num, by simp, hb.trans (hb1.mono hb.size)⟩
      case measure => simp [intOf]
    · go_wp2_with fail
      go_ret2
      exact ⟨rfl, hb⟩

/-! ### What the slots tell -/
theorem insM_mem : ∀ (M : List Pl) (x p : Pl), p ∈ insM M x → p = x ∨ p ∈ M
  | [], x, p, h => by simp [insM] at h; exact .inl h
  | y :: r, x, p, h => by
    unfold insM at h
    split at h
    · rcases List.mem_cons.1 h with rfl | h
      · exact .inr (by simp)
      · rcases insM_mem r x p h with h | h
        · exact .inl h
        · exact .inr (by simp [h])
    · split at h
      · rcases List.mem_cons.1 h with h | h
        · exact .inl h
        · exact .inr (by simp [h])
      · rcases List.mem_cons.1 h with h | h
        · exact .inl h
        · exact .inr h
theorem insM_ord : ∀ (M : List Pl) (x : Pl), Ord M → Ord (insM M x)
  | [], x, _ => by simp [insM, Ord]
  | y :: r, x, h => by
    unfold Ord at h
    obtain ⟨h1, h2⟩ := List.pairwise_cons.1 h
    have ih := insM_ord r x h2
    unfold insM
    split
    · next hlt =>
      refine List.pairwise_cons.2 ⟨fun p hp => ?_, ih⟩
      rcases insM_mem r x p hp with rfl | hp
      · exact hlt
      · exact h1 p hp
    · next hge =>
      split
      · next he =>
        have e := cmpB_zero he
        exact List.pairwise_cons.2 ⟨fun p hp => by rw [← e]; exact h1 p hp, h2⟩
      · next hne =>
        have hxy : cmpB x.node.path y.node.path < 0 := by have := cmpB_swap x.node.path y.node.path; omega
        refine List.pairwise_cons.2 ⟨fun p hp => ?_, h⟩
        rcases List.mem_cons.1 hp with rfl | hp
        · exact hxy
        · exact cmpB_trans hxy (h1 p hp)
theorem insM_len : ∀ (M : List Pl) (x : Pl), (insM M x).length ≤ M.length + 1
  | [], x => by simp [insM]
  | y :: r, x => by
    have ih := insM_len r x
    unfold insM
    split
    · simp; omega
    · split <;> simp
/-- All that the first slots tell. -/
def loadM (V : Nat → ByteArray) : Nat → List Pl
  | 0 => []
  | k + 1 => match dec (V (2 * k) ++ V (2 * k + 1)) with
    | some n => insM (loadM V k) ⟨k, n⟩
    | none => loadM V k
theorem loadM_ord (V : Nat → ByteArray) : ∀ k, Ord (loadM V k)
  | 0 => by simp [loadM, Ord]
  | k + 1 => by
    unfold loadM
    split
    · exact insM_ord _ _ (loadM_ord V k)
    · exact loadM_ord V k
theorem loadM_len (V : Nat → ByteArray) : ∀ k, (loadM V k).length ≤ k
  | 0 => by simp [loadM]
  | k + 1 => by
    have := loadM_len V k
    unfold loadM
    split
    · next n _ => have := insM_len (loadM V k) ⟨k, n⟩; omega
    · omega
theorem loadM_slot (V : Nat → ByteArray) : ∀ k, ∀ p ∈ loadM V k, p.slot < k
  | 0, p, hp => by simp [loadM] at hp
  | k + 1, p, hp => by
    unfold loadM at hp
    split at hp
    · rcases insM_mem _ _ _ hp with rfl | hp
      · exact Nat.lt_succ_self _
      · have := loadM_slot V k p hp; omega
    · have := loadM_slot V k p hp; omega

def LoadPost (w : World) (M : List Pl) (e : Ending) (w' : World) : Prop :=
  ∃ bm ev, e = .returned (.tuple #[.pointer (some ⟨bm, 0, none⟩), .int .i64 0]) ∧ MAt w' w.heap.size bm ev M ∧ Below w.heap.size w w'

set_option maxRecDepth 100000 in
set_option maxHeartbeats 6400000 in
theorem readSlots_ok (w : World) (bl bd bs : Nat) (pv lv : Value) (ps : List (Nat × ByteArray)) (br : Bool) (d : Dk) (V : Nat → ByteArray) (hl : LAt w bl bd pv ps br) (h : DAt w bd bs lv d) (hn : d.safe.length ≤ 4096) (hll : d.late.length ≤ 1000000) (hp : ps.length ≤ 80)
    (hV : ∀ i, i < 120 → getL d ps br ((i : Nat) : Int) = (V i, 0) ∧ (V i).size = 256) :
    Calls Tryd.prog 60 #[.pointer (some ⟨bl, 0, none⟩)] w (LoadPost w (loadM V 60)) := by
  have HV := hide hV
  clear hV
  go_enter Tryd.func60, Tryd.ntmps60
  go_wp2_with fail
  go_loopw [12] (fun i wr => ∃ (k : Nat) (ev : Value), k ≤ 60 ∧ i = .int .i64 k ∧ MAt wr w.heap.size w.heap.size ev (loadM V k) ∧ Below w.heap.size w wr) (fun i _ => 60 - (intOf i).toNat)
  case atStart =>
    refine ⟨0, .slice none 0 0, by omega, rfl, ⟨heap_alloc_new w _, World.ownsRow_nil _ _ _ _, Nat.le_refl _, by simp [Value.ownBlock]⟩, (Below.refl _ w).alloc (Nat.le_refl _) _⟩
  case round =>
    obtain ⟨k, ev, hk, rfl, hM, hb⟩ := hrel
    have hlb := hl.below hb
    have hdb := h.below hb
    by_cases hlt : k < 60
    · have hsz : (V (2 * k) ++ V (2 * k + 1)).size = 512 := by
        rw [ByteArray.size_append, ((unhide HV) _ (by omega)).2, ((unhide HV) _ (by omega)).2]
      have HM := hide hM
      have HB := hide hb
      clear hM hb
      go_wp2_with fail
      refine (readSlot_ok wr bl bd bs pv lv ps br d k V hlb hdb hn hll hp hlt (unhide HV)).mono ?_
      rintro e w1 ⟨rfl, hb1⟩
      obtain ⟨t, ht⟩ : ∃ t, t = V (2 * k) ++ V (2 * k + 1) := ⟨_, rfl⟩
      rw [← ht] at hsz ⊢
      have HT := hide ht
      clear ht
      go_wp2_with fail
      refine (decode_any w1 t hsz).mono ?_
      rintro e w2 ⟨m, rfl, hm, hb2⟩
      unfold ndV
      have hM2 := ((unhide HM).below hb1).below hb2
      have hB2 := ((unhide HB).trans (hb1.mono (unhide HB).size)).trans (hb2.mono (Nat.le_trans (unhide HB).size hb1.size))
      have hlen := loadM_len V k
      cases hd : dec t with
      | none =>
        have HD := hide hd
        rw [show (none : Option Nd).isSome = false from rfl]
        clear hd hm
        go_wp2_with fail
        go_roundw
        case rel =>
          refine ⟨k + 1, ev, by omega, by go_num, ?_, hB2.alloc hB2.size _⟩
          have e : loadM V (k + 1) = loadM V k := by
            rw [loadM, ← unhide HT, unhide HD]
          rw [e]
          exact hM2.below ((Below.refl _ _).alloc (Nat.le_refl _) _)
        case measure => simp [intOf]; omega
      | some n =>
        have hmn := hm n hd
        subst hmn
        have HD := hide hd
        rw [show (some m : Option Nd).isSome = true from rfl]
        clear hd hm
        have hM3 := hM2.below ((Below.refl _ w2).alloc (Nat.le_refl _) (.cells #[.string m.path, .int .i64 m.kind, .int .i64 m.mode, .int .i64 m.tag, .string m.data] 45))
        have hput := mput_any (w2.alloc (.cells #[.string m.path, .int .i64 m.kind, .int .i64 m.mode, .int .i64 m.tag, .string m.data] 45)) w.heap.size w.heap.size ev (loadM V k) ⟨k, m⟩ hM3 (by have := hB2.size; simp; omega) (loadM_ord V k) (by omega)
        unfold plV at hput
        have HP := hide hput
        clear hput
        go_wp2_with fail
        refine (unhide HP).mono ?_
        rintro e w3 ⟨ev3, rfl, hM4, st⟩
        go_wp2_with fail
        go_roundw
        case rel =>
          refine ⟨k + 1, ev3, by omega, by go_num, ?_, ?_⟩
          · have e : loadM V (k + 1) = insM (loadM V k) ⟨k, m⟩ := by
              rw [loadM, ← unhide HT, unhide HD]
            rw [e]
            exact hM4
          · have := DStep.below st (Nat.le_refl _) (Nat.le_refl _) (fun g hg => (hM3.row.lt g hg).1) (by have := hB2.size; simp; omega)
            exact (hB2.alloc hB2.size _).trans this
        case measure => simp [intOf]; omega
    · have hk' : k = 60 := by omega
      subst hk'
      go_wp2_with fail
      go_ret2
      exact ⟨_, ev, rfl, hM, hb⟩
end Go.Proofs.YtcbindgpbeaebaaDoor
