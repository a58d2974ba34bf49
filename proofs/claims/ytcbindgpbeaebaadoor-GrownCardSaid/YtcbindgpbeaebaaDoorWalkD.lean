import Derived.Test.YtcbindgpbeaebaaDoorWalkC
namespace Go.Proofs.YtcbindgpbeaebaaDoor
open Go.RowKit Go.Deep
attribute [local go_sem ↓] Go.wp_at_zero Go.wp_at_succ

/-- What was written last. -/
def lastOf : List (Nat × ByteArray) → Nat → Option ByteArray
  | [], _ => none
  | p :: r, a => match lastOf r a with
    | some s => some s
    | none => if p.1 = a then some p.2 else none
theorem lastOf_none : ∀ (l : List (Nat × ByteArray)) (a : Nat), (∀ (j : Nat) (p : Nat × ByteArray), l[j]? = some p → p.1 ≠ a) → lastOf l a = none
  | [], _, _ => rfl
  | p :: r, a, h => by
    have h0 := h 0 p (by simp)
    rw [lastOf, lastOf_none r a fun j q hq => h (j + 1) q (by simpa using hq)]
    simp [h0]
theorem lastOf_hit : ∀ (l : List (Nat × ByteArray)) (a i : Nat) (p : Nat × ByteArray), l[i]? = some p → p.1 = a → (∀ j q, i < j → l[j]? = some q → q.1 ≠ a) → lastOf l a = some p.2
  | [], _, _, _, h, _, _ => by simp at h
  | q :: r, a, 0, p, h, e, hn => by
    simp at h; subst h
    rw [lastOf, lastOf_none r a fun j q hq => hn (j + 1) q (by omega) (by simpa using hq)]
    simp [e]
  | q :: r, a, i + 1, p, h, e, hn => by
    rw [lastOf, lastOf_hit r a i p (by simpa using h) e fun j q hj hq => hn (j + 1) q (by omega) (by simpa using hq)]

/-- The empty text stands for a block of bytes 0. -/
def blk (s : ByteArray) : ByteArray := if s = ⟨#[]⟩ then zs 256 else s
/-- (*Disk).Read, of a block that is there, on a disk that is not dead. -/
def Dk.read (d : Dk) (a : Nat) : ByteArray := (lastOf d.late a).getD (blk ((d.safe[a]?).getD ⟨#[]⟩))

set_option maxRecDepth 100000 in
set_option maxHeartbeats 3200000 in
theorem read_dead (w : World) (bd bs : Nat) (lv : Value) (d : Dk) (a : Int) (h : DAt w bd bs lv d) (a0 : 0 ≤ a) (a1 : a < d.safe.length) (hl : d.life = 0) :
    Calls Tryd.prog 94 #[.pointer (some ⟨bd, 0, none⟩), .int .i64 a] w fun e w' => e = .returned (.tuple #[.string ⟨#[]⟩, .bool false]) ∧ w' = w := by
  obtain ⟨k, rfl⟩ := Int.eq_ofNat_of_zero_le a0
  have c0 := h.c0
  have c3 := h.c3
  rw [hl] at c3
  clear hl
  go_enter Tryd.func94, Tryd.ntmps94
  go_wp2_with fail
  go_ret2
  exact ⟨rfl, rfl⟩

set_option maxRecDepth 100000 in
set_option maxHeartbeats 3200000 in
theorem read_live (w : World) (bd bs : Nat) (lv : Value) (d : Dk) (a : Int) (h : DAt w bd bs lv d) (_hn : d.safe.length ≤ 4096) (a0 : 0 ≤ a) (a1 : a < d.safe.length) (hl : d.life ≠ 0) (hll : d.late.length ≤ 1000000) :
    Calls Tryd.prog 94 #[.pointer (some ⟨bd, 0, none⟩), .int .i64 a] w fun e w' => e = .returned (.tuple #[.string (d.read a.toNat), .bool true]) ∧ (w' = w ∨ ∃ o, w' = w.alloc o) := by
  obtain ⟨k, rfl⟩ := Int.eq_ofNat_of_zero_le a0
  rw [Int.toNat_natCast]
  obtain ⟨ao, cap, hlv⟩ := ownsRow_form h.late
  subst hlv
  have c0 := h.c0
  have c1 := h.c1
  have c3 := h.c3
  have bl : (d.life == 0) = false := by simpa using hl
  obtain ⟨s, hs⟩ : ∃ s, d.safe[k]? = some s := ⟨d.safe[k]'(by omega), List.getElem?_eq_getElem _⟩
  have cs := h.sc k s hs
  have HS := hide hs
  clear hs hl
  go_enter Tryd.func94, Tryd.ntmps94
  go_wp2_with fail
  go_loop [6] (fun i => ∃ m : Nat, m ≤ d.late.length ∧ i = .int .i64 ((m : Int) - 1) ∧ ∀ j q, m ≤ j → d.late[j]? = some q → q.1 ≠ k) (fun i => (intOf i + 1).toNat)
  case atStart => exact ⟨d.late.length, Nat.le_refl _, rfl, fun j q hj hq => by rw [List.getElem?_eq_none hj] at hq; cases hq⟩
  case round =>
    obtain ⟨m, hm, rfl, hno⟩ := hrel
    have HN := hide hno
    clear hno
    rcases m with _ | m
    · have HL : Hid (lastOf d.late k = none) := lastOf_none _ _ fun j q hq => (unhide HN) j q (Nat.zero_le _) hq
      by_cases he : s = ⟨#[]⟩
      · have HR : Hid (d.read k = zs 256) := by show d.read k = _; rw [Dk.read, unhide HL, unhide HS]; simp [blk, he]
        subst he
        go_wp2_with fail
        refine (zeros_any _ _ (by omega) (by omega)).mono ?_
        rintro e w' ⟨rfl, o, rfl⟩
        go_wp2_with fail
        go_ret2
        exact ⟨by rw [unhide HR]; rfl, .inr ⟨o, rfl⟩⟩
      · have HR : Hid (d.read k = s) := by show d.read k = _; rw [Dk.read, unhide HL, unhide HS]; simp [blk, he]
        have hb : s.toList.isEmpty = false := by
          rw [Bool.eq_false_iff]
          intro e
          apply he
          rw [ByteArray.toList_eq, List.isEmpty_iff] at e
          cases s with | mk dd => cases dd with | mk ll => simp at e; subst e; rfl
        clear he
        go_wp2_with fail
        go_ret2
        exact ⟨by rw [unhide HR]; rfl, .inl rfl⟩
    · obtain ⟨p, hp⟩ : ∃ p, d.late[m]? = some p := ⟨d.late[m]'(by omega), List.getElem?_eq_getElem _⟩
      obtain ⟨g, capx, he, cA, cB⟩ := h.lc m p hp
      have hao : ao = some ⟨g, 0, none⟩ := by
        simp only [Value.slice.injEq] at he
        exact he.1
      subst hao
      clear he
      have hmm : ((m + 1 : Nat) : Int) - 1 = (m : Int) := by omega
      rw [hmm]
      clear hmm
      have i0 : (0 : Int) ≤ (m : Int) := Int.natCast_nonneg _
      have i1 : (m : Int) < (d.late.length : Int) := by omega
      have HP := hide hp
      clear hp
      by_cases hpk : p.1 = k
      · have HR : Hid (d.read k = p.2) := by
          show d.read k = _
          rw [Dk.read, lastOf_hit _ _ m p (unhide HP) hpk fun j q hj hq => (unhide HN) j q (by omega) hq]
          rfl
        have hb : ((p.1 : Int) == (k : Int)) = true := by simp [hpk]
        clear hpk
        go_wp2_with fail
        go_ret2
        exact ⟨by rw [unhide HR]; rfl, .inl rfl⟩
      · have hb : ((p.1 : Int) == (k : Int)) = false := by simp; omega
        have HK := hide hpk
        clear hpk
        go_wp2_with fail
        go_round
        case rel =>
          refine ⟨m, by omega, by go_num, fun j q hj hq => ?_⟩
          by_cases hjm : j = m
          · subst hjm
            rw [unhide HP] at hq
            cases hq
            exact unhide HK
          · exact (unhide HN) j q (by omega) hq
        case measure => simp [intOf]
end Go.Proofs.YtcbindgpbeaebaaDoor
