import Derived.Test.YtcbindgpbeaebaaDoorMapA
import Derived.Handy
namespace Go.Proofs.YtcbindgpbeaebaaDoor
open Go.RowKit Go.Deep

/-- What is at a path. -/
def getM (M : List Pl) (q : ByteArray) : Option Pl := M.find? fun p => cmpB p.node.path q == 0
theorem getM_pos {M : List Pl} {q : ByteArray} {i : Nat} (hord : Ord M) (hi : IsPos M q i) : getM M q = if thereAt M q i then M[i]? else none := by
  unfold thereAt
  cases hm : M[i]? with
  | none =>
    show getM M q = none
    unfold getM
    rw [List.find?_eq_none]
    intro x hx
    obtain ⟨k, hk⟩ := List.getElem?_of_mem hx
    have hl : k < i := by
      rcases Nat.lt_or_ge k i with h | h
      · exact h
      · have := (List.getElem?_eq_some_iff.1 hk).1
        have := List.getElem?_eq_none_iff.1 hm
        omega
    have := hi.lo k x hl hk
    simp; omega
  | some p =>
    cases hp : cmpB p.node.path q == 0
    · simp only [hp, Bool.false_eq_true, if_false]
      unfold getM
      rw [List.find?_eq_none]
      intro x hx
      obtain ⟨k, hk⟩ := List.getElem?_of_mem hx
      have hp0 := hi.hi i p (Nat.le_refl _) hm
      have hp1 : cmpB p.node.path q ≠ 0 := by simpa using hp
      rcases Nat.lt_trichotomy k i with h | h | h
      · have := hi.lo k x h hk; simp; omega
      · subst h; rw [hm] at hk; cases hk; simpa using hp
      · have h1 := hord.at hm hk h
        simp only [beq_iff_eq]
        intro h2
        have := cmpB_zero h2
        rw [this] at h1
        omega
    · simp only [hp, if_true]
      have e0 : p.node.path = q := cmpB_zero (by simpa using hp)
      unfold getM
      have hl : i < M.length := (List.getElem?_eq_some_iff.1 hm).1
      have e : M = M.take i ++ (p :: M.drop (i + 1)) := by
        have := List.take_append_drop i M
        rw [List.drop_eq_getElem_cons hl, (List.getElem?_eq_some_iff.1 hm).2] at this
        exact this.symm
      rw [e, List.find?_append]
      have : (M.take i).find? (fun p => cmpB p.node.path q == 0) = none := by
        rw [List.find?_eq_none]
        intro x hx
        obtain ⟨k, hk⟩ := List.getElem?_of_mem hx
        rw [List.getElem?_take] at hk
        split at hk
        · next h => have := hi.lo k x h hk; simp; omega
        · cases hk
      rw [this]
      simp [hp]

def zPl : Value := .agg #[.int .i64 0, .string ⟨#[]⟩, .int .i64 0, .int .i64 0, .int .i64 0, .string ⟨#[]⟩]
def optPl : Option Pl → Value
  | some p => plV p
  | none => zPl

set_option maxRecDepth 100000 in
set_option maxHeartbeats 3200000 in
theorem mget_any (w : World) (B bm : Nat) (ev : Value) (M : List Pl) (q : ByteArray) (h : MAt w B bm ev M) (hord : Ord M) (hm : M.length ≤ 1000000) :
    Calls Tryd.prog 36 #[.pointer (some ⟨bm, 0, none⟩), .string q] w fun e w' => e = .returned (.tuple #[optPl (getM M q), .bool (getM M q).isSome]) ∧ Below w.heap.size w w' := by
  go_enter Tryd.func36, Tryd.ntmps36
  go_wp2_with fail
  refine (mfind_any _ B bm ev M q (h.below ((Below.refl _ _).alloc (Nat.le_refl _) _)) hord hm).mono ?_
  rintro e w1 ⟨i, rfl, hi, hb⟩
  have hg := getM_pos hord hi
  have hb1 : Below (w.heap.size + 1) (w.alloc (.cells #[.int .i64 0, .string ⟨#[]⟩, .int .i64 0, .int .i64 0, .int .i64 0, .string ⟨#[]⟩] 88)) w1 := by simpa using hb
  have hc := hb1.block w.heap.size (by omega)
  rw [heap_alloc_new] at hc
  have hne : ¬ w.heap.size = w1.heap.size := by have := hb1.size; simp at this; omega
  have hca := (Below.heap_alloc w1 (.cells #[.int .i64 0, .string ⟨#[]⟩, .int .i64 0, .int .i64 0, .int .i64 0, .string ⟨#[]⟩] 88) w.heap.size (by have := hb1.size; simp at this; omega)).trans hc
  have hba : Below w.heap.size w w1 := ((Below.refl w.heap.size w).alloc (Nat.le_refl _) _).trans (hb1.mono (by omega))
  have HBA := hide hba
  have hM := (h.below ((Below.refl _ _).alloc (Nat.le_refl _) _)).below hb
  have HB := hide hb1
  clear hb1 hb hba
  cases ht : thereAt M q i
  · have z := fun j => frozen_of_row _ w.heap.size j _ _ hca
    have z0 := z 0
    have z1 := z 1
    have z2 := z 2
    have z3 := z 3
    have z4 := z 4
    have z5 := z 5
    clear z
    have c := fun j => cell_of_row _ w.heap.size j _ _ _ hca
    have c0 := c 0
    have c1 := c 1
    have c2 := c 2
    have c3 := c 3
    have c4 := c 4
    have c5 := c 5
    simp at c0 c1 c2 c3 c4 c5
    clear c hca hc
    rw [ht] at hg
    have HG := hide (show getM M q = none from hg)
    clear hM hg
    go_wp2_with fail
    refine bodyPost_ret (v := .tuple #[zPl, .bool false]) ?_ rfl ⟨by rw [unhide HG]; rfl, ?_⟩
    · simp [results, Tryd.f36, go_sem, c0, c1, c2, c3, c4, c5, zPl]
    · exact (((((((unhide HBA).alloc (unhide HBA).size _).setCell (p := ⟨w.heap.size, 0, none⟩) (Nat.le_refl _) _).setCell (p := ⟨w.heap.size, 1, none⟩) (Nat.le_refl _) _).setCell (p := ⟨w.heap.size, 2, none⟩) (Nat.le_refl _) _).setCell (p := ⟨w.heap.size, 3, none⟩) (Nat.le_refl _) _).setCell (p := ⟨w.heap.size, 4, none⟩) (Nat.le_refl _) _).setCell (p := ⟨w.heap.size, 5, none⟩) (Nat.le_refl _) _
  · have z := fun j => frozen_of_row _ w.heap.size j _ _ hc
    have z0 := z 0
    have z1 := z 1
    have z2 := z 2
    have z3 := z 3
    have z4 := z 4
    have z5 := z 5
    clear z
    have c := fun j => cell_of_row _ w.heap.size j _ _ _ hc
    have c0 := c 0
    have c1 := c 1
    have c2 := c 2
    have c3 := c 3
    have c4 := c 4
    have c5 := c 5
    simp at c0 c1 c2 c3 c4 c5
    clear c hca hc
    rw [ht] at hg
    have hil : i < M.length := by
      unfold thereAt at ht
      cases hq : M[i]? with
      | none => rw [hq] at ht; cases ht
      | some p => exact (List.getElem?_eq_some_iff.1 hq).1
    obtain ⟨p, hp⟩ : ∃ p, M[i]? = some p := ⟨_, List.getElem?_eq_getElem hil⟩
    have HG := hide (show getM M q = some p from hg.trans hp)
    have mc := hM.cell
    obtain ⟨g, cap, rfl, ⟨d0, d1, d2, d3, d4, d5, d6⟩, hgl⟩ := row7_at hM.row i p hp
    have i0 : (0 : Int) ≤ (i : Int) := Int.natCast_nonneg _
    have i1 : (i : Int) < (M.length : Int) := by omega
    clear hM hg hp
    go_wp2_with fail
    refine bodyPost_ret (v := .tuple #[plV p, .bool true]) ?_ rfl ⟨by rw [unhide HG]; rfl, ?_⟩
    · simp [results, Tryd.f36, go_sem, c0, c1, c2, c3, c4, c5, plV]
    · exact ((((((unhide HBA).setCell (p := ⟨w.heap.size, 0, none⟩) (Nat.le_refl _) _).setCell (p := ⟨w.heap.size, 1, none⟩) (Nat.le_refl _) _).setCell (p := ⟨w.heap.size, 2, none⟩) (Nat.le_refl _) _).setCell (p := ⟨w.heap.size, 3, none⟩) (Nat.le_refl _) _).setCell (p := ⟨w.heap.size, 4, none⟩) (Nat.le_refl _) _).setCell (p := ⟨w.heap.size, 5, none⟩) (Nat.le_refl _) _
end Go.Proofs.YtcbindgpbeaebaaDoor
