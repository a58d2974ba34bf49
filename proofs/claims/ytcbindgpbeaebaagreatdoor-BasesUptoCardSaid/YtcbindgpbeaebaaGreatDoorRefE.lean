import Derived.Test.YtcbindgpbeaebaaGreatDoorBaseC
import Derived.Test.YtcbindgpbeaebaaGreatDoorWalkM
import Derived.Laws.AppendOwnNone
namespace Go.Proofs.YtcbindgpbeaebaaGreatDoor
open Go.RowKit Go.Deep

/-! ### The document's base: nodes in the order of their paths -/
def nodesOf (M : List Pl) : List Nd := M.map (·.node)
def insN : List Nd → Nd → List Nd
  | [], x => [x]
  | y :: r, x => if cmpB y.path x.path < 0 then y :: insN r x else if cmpB y.path x.path = 0 then x :: r else x :: y :: r
theorem nodesOf_ins : ∀ (M : List Pl) (x : Pl), nodesOf (insM M x) = insN (nodesOf M) x.node
  | [], x => rfl
  | y :: r, x => by
    have ih := nodesOf_ins r x
    unfold nodesOf at ih ⊢
    unfold insM
    rw [List.map_cons]
    unfold insN
    split
    · rw [List.map_cons, ih]
    · split
      · rfl
      · rfl
def findN (l : List Nd) (q : ByteArray) : Option Nd := l.find? fun n => cmpB n.path q == 0
theorem findN_getM : ∀ (M : List Pl) (q : ByteArray), findN (nodesOf M) q = (getM M q).map (·.node)
  | [], _ => rfl
  | y :: r, q => by
    have ih := findN_getM r q
    unfold findN getM nodesOf at *
    rw [List.map_cons, List.find?_cons, List.find?_cons]
    cases cmpB y.node.path q == 0
    · exact ih
    · rfl
def hitN (q : ByteArray) (n : Nd) : Bool := (n.path.toList == q.toList) || belowB n.path q
theorem nodesOf_filter (q : ByteArray) : ∀ M : List Pl, nodesOf (M.filter fun p => !hit q p) = (nodesOf M).filter fun n => !hitN q n
  | [] => rfl
  | y :: r => by
    have ih := nodesOf_filter q r
    unfold nodesOf at ih ⊢
    rw [List.filter_cons, List.map_cons, List.filter_cons]
    have e : hitN q y.node = hit q y := rfl
    rw [e]
    cases hit q y
    · simp only [Bool.not_false, if_true, List.map_cons, ih]
    · simpa using ih
/-- A put by the document. -/
def rPutErr (l : List Nd) (n : Nd) : Int :=
  if (parentB n.path).size ≠ 0 ∧ findN l (parentB n.path) = none then 4
  else if (parentB n.path).size ≠ 0 ∧ (findN l (parentB n.path)).map (·.kind) = some 1 then 6
  else if (match findN l n.path with | some old => decide (old.kind ≠ n.kind) | none => false) = true then 6
  else if findN l n.path = none ∧ 60 ≤ l.length then 8 else 0
/-- A deed by the document. -/
def rOne (l : List Nd) (x : Dd) : List Nd × Int :=
  if x.take = true then (if findN l x.node.path = none then (l, 4) else (l.filter (fun n => !hitN x.node.path n), 0))
  else if rPutErr l x.node ≠ 0 then (l, rPutErr l x.node) else (insN l x.node, 0)
/-- Deeds by the document. -/
def rAll (l0 : List Nd) : List Nd → List Dd → List Nd × Int
  | l, [] => (l, 0)
  | l, x :: r => if (rOne l x).2 ≠ 0 then (l0, (rOne l x).2) else rAll l0 (rOne l x).1 r
def rDo (l : List Nd) (L : List Dd) : List Nd × Int := if okDeeds L = true then rAll l l L else (l, 1)

/-- Every node is one that may be. -/
def Good (M : List Pl) : Prop := ∀ p ∈ M, p.node.kind = 1 ∨ p.node.kind = 2
theorem okNode_kind {n : Nd} (h : okNode n = true) : n.kind = 1 ∨ n.kind = 2 := by
  simp only [okNode, Bool.and_eq_true, decide_eq_true_eq] at h
  have := h.2
  split at this
  · next e => exact .inl e
  · split at this
    · next e => exact .inr e
    · cases this
theorem dec_ok {t : ByteArray} {n : Nd} (h : dec t = some n) : okNode n = true := by
  unfold dec at h
  split at h
  · next e => rw [← Option.some.inj h]; exact e.2
  · cases h
theorem SlotsOf.good {F : Nat → ByteArray} {M : List Pl} (h : SlotsOf F M) : Good M := fun p hp =>
  okNode_kind (dec_ok ((h.tell p.slot (h.low p hp) p.node).2 hp))
def tailN (o : Option Nd) (k : Int) (len : Nat) : Int := if (match o with | some old => decide (old.kind ≠ k) | none => false) = true then 6 else if o = none ∧ 60 ≤ len then 8 else 0
theorem tailN_eq (o : Option Pl) (k : Int) (len : Nat) : tailN (o.map (·.node)) k len = (match o with | some old => if old.node.kind ≠ k then 6 else 0 | none => if 60 ≤ len then 8 else 0) := by
  unfold tailN
  cases o with
  | none => simp
  | some old => simp
theorem rPutErr_eq {M : List Pl} (g : Good M) (n : Nd) : rPutErr (nodesOf M) n = putErr M n := by
  have hlen : (nodesOf M).length = M.length := by simp [nodesOf]
  have e : rPutErr (nodesOf M) n = if (parentB n.path).size ≠ 0 ∧ (getM M (parentB n.path)).map (·.node) = none then 4
      else if (parentB n.path).size ≠ 0 ∧ ((getM M (parentB n.path)).map (·.node)).map (·.kind) = some 1 then 6
      else tailN ((getM M n.path).map (·.node)) n.kind M.length := by
    unfold rPutErr tailN
    rw [findN_getM, findN_getM, hlen]
  rw [e, tailN_eq]
  unfold putErr chk
  by_cases hz : (parentB n.path).size = 0
  · cases hg : getM M n.path <;> simp [hz]
  · cases hp : getM M (parentB n.path) with
    | none => simp [hz]
    | some p =>
      have hk := g p (getM_some hp).1
      by_cases h1 : p.node.kind = 1
      · simp [hz, h1]
      · have h2 : p.node.kind = 2 := by omega
        cases hg : getM M n.path <;> simp [hz, h2]
theorem D1.ref {M : List Pl} {ps : List (Nat × ByteArray)} {x : Dd} {e : Int} {M' : List Pl} {ps' : List (Nat × ByteArray)} {c : Nat} (h : D1 M ps x e M' ps') (mo : MOk M) (hp : PsB c ps) (g : Good M) : rOne (nodesOf M) x = (nodesOf M', e) := by
  unfold rOne
  rcases h with ⟨ht, ⟨k1, rfl, rfl, _⟩ | ⟨k1, rfl, rfl, _⟩⟩ | ⟨ht, he, ⟨k1, rfl, _⟩ | ⟨k1, slot, _, rfl, _⟩⟩
  · rw [if_pos ht, findN_getM, k1]; rfl
  · rw [if_pos ht, findN_getM, if_neg, take_filter _ mo.ord ps c hp mo.slot, nodesOf_filter]
    obtain ⟨p, hp⟩ := Option.isSome_iff_exists.1 k1
    rw [hp]; simp
  · rw [if_neg (by rw [ht]; simp), rPutErr_eq g, if_pos k1, he]
  · rw [if_neg (by rw [ht]; simp), rPutErr_eq g, if_neg (by simp [k1]), nodesOf_ins, he, k1]
theorem D1.good {M : List Pl} {ps : List (Nat × ByteArray)} {x : Dd} {M' : List Pl} {ps' : List (Nat × ByteArray)} {e : Int} (h : D1 M ps x e M' ps') (hok : okDeed x = true) (g : Good M) : Good M' := by
  rcases h with ⟨ht, ⟨_, _, rfl, _⟩ | ⟨_, _, rfl, _⟩⟩ | ⟨ht, he, ⟨_, rfl, _⟩ | ⟨_, slot, _, rfl, _⟩⟩
  · exact g
  · exact fun p hp => g p (takeSt_sub _ _ _ p hp)
  · exact g
  · intro p hp
    rcases insM_mem _ _ _ hp with rfl | hp
    · unfold okDeed at hok
      rw [ht] at hok
      exact okNode_kind (by simpa using (Bool.and_eq_true _ _ ▸ hok).2)
    · exact g p hp
theorem rAll_app (l0 : List Nd) : ∀ (L : List Dd) (l l' : List Nd) (x : Dd) (r : List Dd), rAll l0 l L = (l', 0) → rAll l0 l (L ++ x :: r) = rAll l0 l' (x :: r)
  | [], l, l', x, r, h => by
    unfold rAll at h
    rw [List.nil_append, (Prod.mk.inj h).1]
  | y :: s, l, l', x, r, h => by
    rw [List.cons_append]
    unfold rAll at h ⊢
    split at h
    · next k => exact absurd (Prod.mk.inj h).2 k
    · next k =>
      rw [if_neg k]
      exact rAll_app l0 s _ l' x r h
theorem Chain.ref {M : List Pl} {ps : List (Nat × ByteArray)} {l : List Dd} {M' : List Pl} {ps' : List (Nat × ByteArray)} {c : Nat} (h : Chain M ps l M' ps') (hok : ∀ x ∈ l, okDeed x = true) (mo : MOk M) (hp : PsB c ps) (g : Good M) (l0 : List Nd) : rAll l0 (nodesOf M) l = (nodesOf M', 0) ∧ Good M' := by
  induction h with
  | nil => exact ⟨rfl, g⟩
  | snoc h k ih =>
    obtain ⟨i1, i2⟩ := ih (fun x hx => hok x (by simp [hx]))
    obtain ⟨m1, p1⟩ := h.ok (fun x hx => okDeed_fit (hok x (by simp [hx]))) mo hp
    refine ⟨?_, k.good (hok _ (by simp)) i2⟩
    rw [rAll_app l0 _ _ _ _ [] i1]
    unfold rAll
    rw [k.ref m1 p1 i2, if_neg (by simp)]
    rfl
/-- How a Do ends, by the document. -/
theorem DoEnd.ref {M : List Pl} {L : List Dd} {d : Dk} {c : Int} {br' : Bool} {d' : Dk} (h : DoEnd M L d c br' d') (mo : MOk M) (g : Good M) :
    (c ≠ 0 ∧ br' = false ∧ d' = d ∧ rDo (nodesOf M) L = (nodesOf M, c)) ∨
    (okDeeds L = true ∧ ∃ M1 ps1, Chain M [] L M1 ps1 ∧ rDo (nodesOf M) L = (nodesOf M1, 0) ∧ Good M1 ∧ c = (commitL d ps1 false).1 ∧ br' = (commitL d ps1 false).2.2 ∧ d' = (commitL d ps1 false).2.1) := by
  rcases h with ⟨k, rfl, e1, e2⟩ | ⟨k, e1, e2, e3, i, x, M1, ps1, M2, ps2, k1, k2, k3⟩ | ⟨k, M1, ps1, k1, e1, e2, e3⟩
  · refine .inl ⟨by decide, e1, e2, ?_⟩
    unfold rDo
    rw [if_neg (by rw [k]; simp)]
  · refine .inl ⟨e3, e1, e2, ?_⟩
    obtain ⟨_, hall⟩ := okDeeds_all k
    obtain ⟨r1, r2⟩ := k1.ref (fun x hx => hall x (List.mem_of_mem_take hx)) mo (PsB.nil 0) g (nodesOf M)
    obtain ⟨m1, p1⟩ := k1.ok (fun x hx => okDeed_fit (hall x (List.mem_of_mem_take hx))) mo (PsB.nil 0)
    unfold rDo
    rw [if_pos k]
    have hl : L = L.take i ++ x :: L.drop (i + 1) := by
      have hi := (List.getElem?_eq_some_iff.1 k2)
      obtain ⟨hi, e⟩ := hi
      rw [← e, List.getElem_cons_drop, List.take_append_drop]
    rw [hl, rAll_app _ _ _ _ _ _ r1]
    unfold rAll
    rw [k3.ref m1 p1 r2, if_pos e3]
  · obtain ⟨_, hall⟩ := okDeeds_all k
    obtain ⟨r1, r2⟩ := k1.ref hall mo (PsB.nil 0) g (nodesOf M)
    refine .inr ⟨k, M1, ps1, k1, ?_, r2, e1, e2, e3⟩
    unfold rDo
    rw [if_pos k, r1]
end Go.Proofs.YtcbindgpbeaebaaGreatDoor

namespace Go.Proofs.YtcbindgpbeaebaaGreatDoor
open Go.RowKit Go.Deep

/-- The steps of a path. -/
def parts : List UInt8 → List (List UInt8)
  | [] => [[]]
  | b :: r => if b = 47 then [] :: parts r else match parts r with
    | h :: t => (b :: h) :: t
    | [] => [[b]]
theorem parts_ne (l : List UInt8) : parts l ≠ [] := by
  cases l with
  | nil => simp [parts]
  | cons b r =>
    unfold parts
    split
    · simp
    · split <;> simp
theorem parts_len : ∀ l : List UInt8, (parts l).length ≤ l.length + 1
  | [] => by simp [parts]
  | b :: r => by
    have ih := parts_len r
    unfold parts
    split
    · simp; omega
    · split
      · next h t e => rw [e] at ih; simp at ih ⊢; omega
      · simp
/-- Without a 47 there is one step. -/
theorem parts_none : ∀ l : List UInt8, (∀ b ∈ l, b ≠ 47) → parts l = [l]
  | [], _ => rfl
  | b :: r, h => by
    have ih := parts_none r fun x hx => h x (by simp [hx])
    unfold parts
    rw [if_neg (h b (by simp)), ih]
/-- A step, a 47, and the rest. -/
theorem parts_at : ∀ (a r : List UInt8), (∀ b ∈ a, b ≠ 47) → parts (a ++ 47 :: r) = a :: parts r
  | [], r, _ => by simp [parts]
  | b :: s, r, h => by
    have ih := parts_at s r fun x hx => h x (by simp [hx])
    rw [List.cons_append, parts, if_neg (h b (by simp)), ih]
theorem cut_parts : ∀ (k : Nat) (s : ByteArray), ((parts s.data.toList).length ≤ k + 1 → (Lib.splitB ⟨#[47]⟩ 0 k s).map (·.data.toList) = parts s.data.toList) ∧ (k + 1 < (parts s.data.toList).length → (Lib.splitB ⟨#[47]⟩ 0 k s).length = k + 1)
  | 0, s => by
    refine ⟨fun h => ?_, fun _ => rfl⟩
    rcases Lib.indexB_cases s ⟨#[47]⟩ with hm | ⟨i, hi, hle⟩
    · have hn := Lib.indexByte_none ((slash_eq s).symm.trans hm)
      have hp := parts_none s.data.toList fun b hb e => by
        obtain ⟨j, hj⟩ := List.mem_iff_getElem?.1 hb
        exact hn j (by rw [hj, e])
      rw [hp]; rfl
    · exfalso
      obtain ⟨h1, h2⟩ := Lib.indexByte_some ((slash_eq s).symm.trans hi)
      have hlt := (List.getElem?_eq_some_iff.1 h1).1
      have e : s.data.toList = s.data.toList.take i ++ 47 :: s.data.toList.drop (i + 1) := by
        have := (List.getElem?_eq_some_iff.1 h1).2
        rw [← this, List.getElem_cons_drop, List.take_append_drop]
      rw [e, parts_at _ _ fun b hb e => by
        obtain ⟨j, hj⟩ := List.mem_iff_getElem?.1 hb
        have hj' : j < i := by
          have := (List.getElem?_eq_some_iff.1 hj).1
          rw [List.length_take] at this; omega
        rw [List.getElem?_take_of_lt hj'] at hj
        exact h2 j hj' (by rw [hj, e])] at h
      have := List.length_pos_iff.2 (parts_ne (s.data.toList.drop (i + 1)))
      rw [List.length_cons] at h
      omega
  | k + 1, s => by
    rcases Lib.indexB_cases s ⟨#[47]⟩ with hm | ⟨i, hi, hle⟩
    · have hn := Lib.indexByte_none ((slash_eq s).symm.trans hm)
      have hp := parts_none s.data.toList fun b hb e => by
        obtain ⟨j, hj⟩ := List.mem_iff_getElem?.1 hb
        exact hn j (by rw [hj, e])
      rw [hp, Lib.splitB_miss _ _ _ _ hm]
      exact ⟨fun _ => rfl, fun h => by simp at h⟩
    · obtain ⟨h1, h2⟩ := Lib.indexByte_some ((slash_eq s).symm.trans hi)
      have hlt := (List.getElem?_eq_some_iff.1 h1).1
      have e : s.data.toList = s.data.toList.take i ++ 47 :: s.data.toList.drop (i + 1) := by
        have := (List.getElem?_eq_some_iff.1 h1).2
        rw [← this, List.getElem_cons_drop, List.take_append_drop]
      have hp : parts s.data.toList = s.data.toList.take i :: parts (s.data.toList.drop (i + 1)) := by
        rw [← parts_at _ _ fun b hb e => by
          obtain ⟨j, hj⟩ := List.mem_iff_getElem?.1 hb
          have hj' : j < i := by
            have := (List.getElem?_eq_some_iff.1 hj).1
            rw [List.length_take] at this; omega
          rw [List.getElem?_take_of_lt hj'] at hj
          exact h2 j hj' (by rw [hj, e]), ← e]
      have hr : (s.extract (i + (⟨#[47]⟩ : ByteArray).size) s.size).data.toList = s.data.toList.drop (i + 1) := by
        rw [Lib.extract_data, show (⟨#[47]⟩ : ByteArray).size = 1 from rfl, List.take_of_length_le (by rw [List.length_drop, Lib.size_eq]; omega)]
      have hf : (s.extract 0 (i + 0)).data.toList = s.data.toList.take i := by
        rw [Lib.extract_data]; simp
      obtain ⟨i1, i2⟩ := cut_parts k (s.extract (i + (⟨#[47]⟩ : ByteArray).size) s.size)
      rw [hr] at i1 i2
      rw [Lib.splitB_hit _ _ _ _ i hi, hp]
      refine ⟨fun h => ?_, fun h => ?_⟩
      · rw [List.map_cons, hf, i1 (by simpa using h)]
      · rw [List.length_cons, i2 (by simpa using h)]
/-- Is it a path? by its steps. -/
theorem okPath_parts (s : ByteArray) : okPath s = (decide ((parts s.data.toList).length ≤ 4) && (parts s.data.toList).all fun l => okStep ⟨l.toArray⟩) := by
  have hl := parts_len s.data.toList
  rw [← Lib.size_eq] at hl
  obtain ⟨i1, i2⟩ := cut_parts (min 5 (s.size + 1) - 1) s
  unfold okPath
  by_cases h : (parts s.data.toList).length ≤ min 5 (s.size + 1) - 1 + 1
  · have e : (cut5 s).map (·.data.toList) = parts s.data.toList := i1 h
    rw [← e, List.length_map, List.all_map]
    rfl
  · have e : (cut5 s).length = min 5 (s.size + 1) - 1 + 1 := i2 (by omega)
    rw [decide_eq_false (by omega), decide_eq_false (by omega)]
    rfl
end Go.Proofs.YtcbindgpbeaebaaGreatDoor

namespace Go.Proofs.YtcbindgpbeaebaaGreatDoor
open Go.RowKit Go.Deep
attribute [local go_sem ↓] Go.wp_at_zero Go.wp_at_succ

/-- The document's log, as plain data. -/
structure Rf where
  many : Int
  sure : List (Nat × ByteArray)
  put : List (Nat × ByteArray)

theorem _root_.Go.World.ownsRow.base0 {w : World} {b : Nat} {e : TypeId} {size : Nat} {v : Value} {n : Nat} {xs : List Value} (h : w.ownsRow b e size v n xs) : w.ownsRow 0 e size v n xs := ownsRow_base h (Nat.zero_le _)
/-- gauzeref.get -/
def lookR : List (Nat × ByteArray) → Int → Option ByteArray
  | [], _ => none
  | p :: r, a => if (p.1 : Int) = a then some p.2 else lookR r a
theorem lookR_none : ∀ (l : List (Nat × ByteArray)) (a : Int), (∀ (j : Nat) (p : Nat × ByteArray), l[j]? = some p → (p.1 : Int) ≠ a) → lookR l a = none
  | [], _, _ => rfl
  | p :: r, a, h => by
    have h0 := h 0 p (by simp)
    rw [lookR, lookR_none r a fun j q hq => h (j + 1) q (by simpa using hq)]
    simp [h0]
theorem lookR_hit : ∀ (l : List (Nat × ByteArray)) (a : Int) (i : Nat) (p : Nat × ByteArray), l[i]? = some p → (p.1 : Int) = a → (∀ j q, j < i → l[j]? = some q → (q.1 : Int) ≠ a) → lookR l a = some p.2
  | [], _, _, _, h, _, _ => by simp at h
  | q :: r, a, 0, p, h, e, hn => by
    simp at h; subst h
    simp [lookR, e]
  | q :: r, a, i + 1, p, h, e, hn => by
    have h0 := hn 0 q (by omega) (by simp)
    rw [lookR, if_neg h0]
    exact lookR_hit r a i p (by simpa using h) e fun j q hj hq => hn (j + 1) q (by omega) (by simpa using hq)
def gotR (l : List (Nat × ByteArray)) (a : Int) : ByteArray × Bool := match lookR l a with
  | some s => (s, true)
  | none => (⟨#[]⟩, false)

/-- A reference log as a value. -/
def rval (R : Rf) (sv pv : Value) : Value := .agg #[.int .i64 R.many, sv, pv]
theorem ownsRow_below {B C : Nat} {w w' : World} {e : TypeId} {size : Nat} {v : Value} {n : Nat} {xs : List Value} (h : w.ownsRow B e size v n xs) (hb : Below C w w') (hC : w.heap.size ≤ C) : w'.ownsRow B e size v n xs := by
  obtain ⟨h1, h2⟩ := h
  refine ⟨h1, ?_⟩
  rcases h2 with h2 | ⟨g, cap, cur, hv, hg, hh, hr⟩
  · exact .inl h2
  · exact .inr ⟨g, cap, cur, hv, hg, (hb.block g (Nat.lt_of_lt_of_le (lt_of_heap hh) hC)).trans hh, hr⟩
/-- (Log).Is -/
def isR (m a : Int) : Bool := decide (0 ≤ a ∧ a < m)
theorem addr0 (g j : Nat) : (⟨g, 0, none⟩ : Addr).add j = ⟨g, j, none⟩ := by unfold Addr.add; split <;> simp_all
/-- (Log).Sure -/
def sureR (R : Rf) (a : Int) : ByteArray := (lookR R.sure a).getD (zs 256)
theorem conv_zeros (w : World) : (convert 207 9 (.slice (some ⟨w.heap.size, 0, none⟩) 256 256)).run Tryz.prog (w.alloc (.cells (madeCells #[.int .u8 0] 256) 5)) = .ok (.string (zs 256)) (w.alloc (.cells (madeCells #[.int .u8 0] 256) 5)) := by
  have this := run_convert_bytes_back (P := Tryz.prog) (w.alloc (.cells (madeCells #[.int .u8 0] 256) 5)) 207 9 5 ⟨w.heap.size, 0, none⟩ 256 (List.replicate 256 0) Tryz.underlying207 Tryz.underlying5 Tryz.underlying9 (fun j hj => by
    rw [addr0, cell_of_row _ _ _ _ _ _ (heap_alloc_new w _), ← Array.getElem?_toList, toList_madeCells_one]
    rw [List.length_replicate] at hj
    rw [List.getElem?_replicate, if_pos hj, List.getElem_replicate]
    rfl)
  rw [List.length_replicate] at this
  exact this

/-- (Log).Get -/
def getR (R : Rf) (a : Int) : ByteArray := (lookR R.put a).getD (sureR R a)
/-- gauzeref.with -/
def withR (l : List (Nat × ByteArray)) (a : Nat) (s : ByteArray) : List (Nat × ByteArray) := (a, s) :: l.filter fun p => decide (p.1 ≠ a)
theorem filter_len (l : List (Nat × ByteArray)) (a : Nat) : (l.filter fun p => decide (p.1 ≠ a)).length ≤ l.length := List.length_filter_le _ _

end Go.Proofs.YtcbindgpbeaebaaGreatDoor

namespace Go.Proofs.YtcbindgpbeaebaaGreatDoor
open Go.RowKit Go.Deep
attribute [local go_sem ↓] Go.wp_at_zero Go.wp_at_succ

theorem grownBy_refl (w : World) (r : Option Nat) : w.grownBy w r := ⟨rfl, rfl, rfl, Nat.le_refl _, fun _ _ _ => rfl⟩
theorem flat_one : ∀ (l : List (Nat × ByteArray)) (u : Value), u ∈ flat l → u.oneCell' = true
  | [], _, h => by simp [flat] at h
  | (a, s) :: r, u, h => by
    simp only [flat, List.mem_cons] at h
    rcases h with rfl | rfl | h
    · rfl
    · rfl
    · exact flat_one r u h
/-- 'append(nil, src...)': a row of its own. -/
theorem wpList_append_copy {P : Program} (w : World) {ops : Array Oper} {rest : List Oper} {o : Oper} {a : Act} {Q : Exit → Act → World → Prop} (hgd : o.guard = none) (s x : Operand) (t : TypeId)
    (ho : o.op = .call { callee := .builtin .append, args := #[s, x], argTypes := #[t, t] })
    (base : Nat) (e : TypeId) (i : TypeInfo) (z : Value) (size bytes : Nat) (ht : P.underlying t = some (.slice e)) (hi : P.info? e = some i) (hz : i.zero = some z)
    (hsize : i.size = size) (hby : i.bytes = bytes) (hzs : z.cells.size = size) (hsz : 0 < size)
    (hs : a.eval s = .slice none 0 0) (src : Value) (n : Nat) (xs : List Value) (hx : a.eval x = src) (hsrc : w.ownsRow 0 e size src n xs) (h1 : ∀ u ∈ xs, u.oneCell' = true)
    (h63 : n ≤ maxLen) (hbytes : n * bytes ≤ 140737488355328) (hbase : base ≤ w.heap.size)
    (h : ∀ v' w', w'.ownsRow base e size v' n xs → w.grownBy w' none → wpList P ops Q rest (a.put o.dst v') w') : wpList P ops Q (o :: rest) a w := by
  have hl := hsrc.1
  rcases hsrc.2 with ⟨hv, hn⟩ | ⟨g, cap, _, hv, _⟩
  · subst hn
    have hxs : xs = [] := List.eq_nil_of_length_eq_zero (by omega)
    subst hxs
    refine wpList_append_own_none hgd s x t ho base e i size ht hi (.slice none 0 0) 0 [] hs (World.ownsRow_nil _ _ _ _) (by rw [hx, hv]) ?_
    exact h _ _ (World.ownsRow_nil _ _ _ _) (grownBy_refl _ _)
  · refine wpList_append_own w hgd s x t ho base e i z size bytes ht hi hz hsize hby hzs hsz (.slice none 0 0) 0 [] hs (World.ownsRow_nil _ _ _ _) ⟨g, 0, none⟩ n cap xs (by rw [hx, hv]) hl (fun j u hj => hsrc.cells (g := g) (by rw [hv]; rfl) j u hj) h1 (by rw [Nat.zero_add]; exact h63) (by rw [Nat.zero_add]; exact hbytes) hbase ?_
    intro v' w' ho' hgr _
    rw [Nat.zero_add, List.nil_append] at ho'
    exact h v' w' ho' hgr

theorem ownsRow_ne {w : World} {b : Nat} {e t : TypeId} {size : Nat} {v : Value} {n k : Nat} {xs : List Value} {cs : Array Value} {fr : Nat × Nat} (h : w.ownsRow b e size v n xs) (hk : w.heap[k]? = some (.cells cs t fr)) (hne : e ≠ t) : v.ownBlock ≠ some k := by
  intro hv
  rcases h.2 with ⟨e1, _⟩ | ⟨g, cap, cur, e1, _, hg, _⟩
  · rw [e1] at hv; cases hv
  · rw [e1] at hv
    have : g = k := by simpa [Value.ownBlock] using hv
    subst this
    rw [hg] at hk
    simp only [Option.some.injEq, Obj.cells.injEq] at hk
    exact hne hk.2.1
theorem ownsRow_set {w : World} {b : Nat} {e : TypeId} {size : Nat} {v : Value} {n : Nat} {xs : List Value} (h : w.ownsRow b e size v n xs) (a : Addr) (hne : v.ownBlock ≠ some a.block) (u : Value) : (w.setCell a u).ownsRow b e size v n xs :=
  ownsRow_kept h fun _ hg => Below.heap_setCell _ _ _ _ (fun e => hne (e ▸ hg))
/-- What is known of a block of three cells. -/
theorem three_cells {w : World} {b : Nat} {x y z : Value} {t : TypeId} (h : w.heap[b]? = some (.cells #[x, y, z] t (0, 0))) :
    w.cell? ⟨b, 0, none⟩ = some x ∧ w.cell? ⟨b, 1, none⟩ = some y ∧ w.cell? ⟨b, 2, none⟩ = some z ∧ w.frozen? ⟨b, 0, none⟩ = false ∧ w.frozen? ⟨b, 1, none⟩ = false ∧ w.frozen? ⟨b, 2, none⟩ = false := by
  refine ⟨?_, ?_, ?_, frozen_of_row w b 0 _ _ h, frozen_of_row w b 1 _ _ h, frozen_of_row w b 2 _ _ h⟩
  · rw [cell_of_row w b 0 _ _ _ h]; rfl
  · rw [cell_of_row w b 1 _ _ _ h]; rfl
  · rw [cell_of_row w b 2 _ _ _ h]; rfl
theorem heap_three (w : World) (x y z : Obj) : (((w.alloc x).alloc y).alloc z).heap[w.heap.size]? = some x ∧ (((w.alloc x).alloc y).alloc z).heap[w.heap.size + 1]? = some y ∧ (((w.alloc x).alloc y).alloc z).heap[w.heap.size + 1 + 1]? = some z ∧ (((w.alloc x).alloc y).alloc z).heap.size = w.heap.size + 3 := by
  refine ⟨?_, ?_, ?_, by simp⟩
  · rw [Below.heap_alloc _ _ _ (by simp; omega), Below.heap_alloc _ _ _ (by simp), heap_alloc_new]
  · rw [Below.heap_alloc _ _ _ (by simp), heap_two']
  · have := heap_two' (w.alloc x) y z
    rw [show (w.alloc x).heap.size = w.heap.size + 1 by simp] at this
    exact this

theorem three_alloc {w : World} {b : Nat} {x y z : Value} {t : TypeId} (h : w.heap[b]? = some (.cells #[x, y, z] t (0, 0))) (o : Obj) : (w.alloc o).heap[b]? = some (.cells #[x, y, z] t (0, 0)) :=
  (Below.heap_alloc _ _ _ (lt_of_heap h)).trans h
theorem heap_pair (w : World) (x y : Obj) : ((w.alloc x).alloc y).heap[w.heap.size]? = some x ∧ ((w.alloc x).alloc y).heap[w.heap.size + 1]? = some y ∧ ((w.alloc x).alloc y).heap.size = w.heap.size + 2 := by
  refine ⟨?_, heap_two' _ _ _, by simp⟩
  rw [Below.heap_alloc _ _ _ (by simp), heap_alloc_new]

/-- (Log).Put -/
def putR (R : Rf) (a : Int) (s : ByteArray) : Rf × Int :=
  if isR R.many a = false ∨ 256 < s.size then (R, 1)
  else if lookR R.put a = none ∧ 80 ≤ R.put.length then (R, 8)
  else ({ R with put := withR R.put a.toNat (s ++ zs (256 - s.size)) }, 0)
end Go.Proofs.YtcbindgpbeaebaaGreatDoor
