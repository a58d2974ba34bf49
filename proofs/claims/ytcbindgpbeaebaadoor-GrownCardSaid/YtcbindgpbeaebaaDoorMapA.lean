import Derived.Test.YtcbindgpbeaebaaDoorPathA
namespace Go.Proofs.YtcbindgpbeaebaaDoor
open Go.RowKit Go.Deep

/-! ### The order of texts -/
def cmpB (a b : ByteArray) : Int := Lib.compareBytes a.data.toList b.data.toList
theorem cb_self : ∀ a : List UInt8, Lib.compareBytes a a = 0
  | [] => by simp [Lib.compareBytes]
  | x :: r => by simp [Lib.compareBytes, UInt8.lt_irrefl, cb_self r]
theorem cb_zero : ∀ a b : List UInt8, Lib.compareBytes a b = 0 → a = b
  | [], [], _ => rfl
  | [], _ :: _, h => by simp [Lib.compareBytes] at h
  | _ :: _, [], h => by simp [Lib.compareBytes] at h
  | x :: r, y :: q, h => by
    unfold Lib.compareBytes at h
    by_cases h1 : x < y
    · simp [h1] at h
    · by_cases h2 : y < x
      · simp [h1, h2] at h
      · rw [if_neg h1, if_neg h2] at h
        have e : x = y := by
          rw [UInt8.lt_iff_toNat_lt] at h1 h2
          exact UInt8.toNat_inj.1 (by omega)
        rw [e, cb_zero r q h]
theorem cb_swap : ∀ a b : List UInt8, Lib.compareBytes b a = - Lib.compareBytes a b
  | [], [] => by simp [Lib.compareBytes]
  | [], _ :: _ => by simp [Lib.compareBytes]
  | _ :: _, [] => by simp [Lib.compareBytes]
  | x :: r, y :: q => by
    unfold Lib.compareBytes
    by_cases h1 : x < y
    · have h2 : ¬ y < x := by rw [UInt8.lt_iff_toNat_lt] at h1 ⊢; omega
      simp [h1, h2]
    · by_cases h2 : y < x
      · simp [h1, h2]
      · rw [if_neg h1, if_neg h2, if_neg h2, if_neg h1, cb_swap r q]
theorem cb_trans : ∀ a b c : List UInt8, Lib.compareBytes a b < 0 → Lib.compareBytes b c < 0 → Lib.compareBytes a c < 0
  | [], [], _, h, _ => by simp [Lib.compareBytes] at h
  | [], _ :: _, [], _, h => by simp [Lib.compareBytes] at h
  | [], _ :: _, _ :: _, _, _ => by simp [Lib.compareBytes]
  | _ :: _, [], _, h, _ => by simp [Lib.compareBytes] at h
  | _ :: _, _ :: _, [], _, h => by simp [Lib.compareBytes] at h
  | x :: r, y :: q, z :: s, h, k => by
    unfold Lib.compareBytes at h k ⊢
    by_cases h1 : x < y
    · by_cases k1 : y < z
      · have : x < z := by rw [UInt8.lt_iff_toNat_lt] at h1 k1 ⊢; omega
        simp [this]
      · by_cases k2 : z < y
        · simp [k1, k2] at k
        · have e : y = z := by
            rw [UInt8.lt_iff_toNat_lt] at k1 k2
            exact UInt8.toNat_inj.1 (by omega)
          subst e
          simp [h1]
    · by_cases h2 : y < x
      · simp [h1, h2] at h
      · have e : x = y := by
          rw [UInt8.lt_iff_toNat_lt] at h1 h2
          exact UInt8.toNat_inj.1 (by omega)
        subst e
        by_cases k1 : x < z
        · simp [k1]
        · by_cases k2 : z < x
          · simp [k1, k2] at k
          · rw [if_neg h1, if_neg h1] at h
            rw [if_neg k1, if_neg k2] at k ⊢
            exact cb_trans r q s h k
theorem bytes_ext {a b : ByteArray} (h : a.data.toList = b.data.toList) : a = b := by
  obtain ⟨⟨l⟩⟩ := a
  obtain ⟨⟨m⟩⟩ := b
  simp at h
  rw [h]
theorem cmpB_self (a : ByteArray) : cmpB a a = 0 := cb_self _
theorem cmpB_zero {a b : ByteArray} (h : cmpB a b = 0) : a = b := bytes_ext (cb_zero _ _ h)
theorem cmpB_swap (a b : ByteArray) : cmpB b a = - cmpB a b := cb_swap _ _
theorem cmpB_trans {a b c : ByteArray} (h : cmpB a b < 0) (k : cmpB b c < 0) : cmpB a c < 0 := cb_trans _ _ _ h k

/-! ### Nodes, and what a map of them has -/
structure Nd where
  path : ByteArray
  kind : Int
  mode : Int
  tag : Int
  data : ByteArray
/-- A node, and the slot that has it. -/
structure Pl where
  slot : Nat
  node : Nd
def ndC (n : Nd) : List Value := [.string n.path, .int .i64 n.kind, .int .i64 n.mode, .int .i64 n.tag, .string n.data]
def plC (p : Pl) : List Value := [.int .i64 (p.slot : Int), .string p.node.path, .int .i64 p.node.kind, .int .i64 p.node.mode, .int .i64 p.node.tag, .string p.node.data]
def enC (p : Pl) : List Value := [.string p.node.path, .int .i64 (p.slot : Int), .string p.node.path, .int .i64 p.node.kind, .int .i64 p.node.mode, .int .i64 p.node.tag, .string p.node.data]
def ndV (n : Nd) : Value := .agg #[.string n.path, .int .i64 n.kind, .int .i64 n.mode, .int .i64 n.tag, .string n.data]
def plV (p : Pl) : Value := .agg #[.int .i64 (p.slot : Int), .string p.node.path, .int .i64 p.node.kind, .int .i64 p.node.mode, .int .i64 p.node.tag, .string p.node.data]
def enV (p : Pl) : Value := .agg #[.string p.node.path, .int .i64 (p.slot : Int), .string p.node.path, .int .i64 p.node.kind, .int .i64 p.node.mode, .int .i64 p.node.tag, .string p.node.data]
def rowM (M : List Pl) : List Value := M.flatMap enC
theorem rowM_len : ∀ M : List Pl, (rowM M).length = M.length * 7
  | [] => rfl
  | p :: r => by
    have h := rowM_len r
    show (enC p ++ rowM r).length = _
    rw [List.length_append, h]
    simp [enC]; omega
theorem rowM_app (l m : List Pl) : rowM (l ++ m) = rowM l ++ rowM m := by simp [rowM]
theorem rowM_at : ∀ (M : List Pl) (k j : Nat) (p : Pl), M[k]? = some p → j < 7 → (rowM M)[k * 7 + j]? = (enC p)[j]?
  | [], k, j, p, h, _ => by simp at h
  | q :: r, 0, j, p, h, hj => by
    simp at h; subst h
    rw [Nat.zero_mul, Nat.zero_add, rowM, List.flatMap_cons, List.getElem?_append_left (by simp [enC]; omega)]
  | q :: r, k + 1, j, p, h, hj => by
    have ih := rowM_at r k j p (by simpa using h) hj
    rw [rowM, List.flatMap_cons, List.getElem?_append_right (by simp [enC]; omega), ← ih, rowM]
    congr 1
    simp [enC]; omega

/-- The seven cells of an entry. -/
structure At7 (w : World) (g k : Nat) (p : Pl) : Prop where
  c0 : w.cell? ⟨g, k * 7, none⟩ = some (.string p.node.path)
  c1 : w.cell? ⟨g, k * 7 + 1, none⟩ = some (.int .i64 (p.slot : Int))
  c2 : w.cell? ⟨g, k * 7 + 2, none⟩ = some (.string p.node.path)
  c3 : w.cell? ⟨g, k * 7 + 3, none⟩ = some (.int .i64 p.node.kind)
  c4 : w.cell? ⟨g, k * 7 + 4, none⟩ = some (.int .i64 p.node.mode)
  c5 : w.cell? ⟨g, k * 7 + 5, none⟩ = some (.int .i64 p.node.tag)
  c6 : w.cell? ⟨g, k * 7 + 6, none⟩ = some (.string p.node.data)
theorem row7_at {w : World} {B : Nat} {v : Value} {M : List Pl} (h : w.ownsRow B 124 7 v M.length (rowM M)) (k : Nat) (p : Pl) (hk : M[k]? = some p) :
    ∃ g cap, v = .slice (some ⟨g, 0, none⟩) M.length cap ∧ At7 w g k p ∧ g < w.heap.size := by
  have hl : k < M.length := by
    rcases Nat.lt_or_ge k M.length with hlt | hge
    · exact hlt
    · rw [List.getElem?_eq_none hge] at hk; cases hk
  obtain ⟨g, cap, hv, _, hg⟩ := h.form (by omega)
  have hc := h.cells (g := g) (by rw [hv]; rfl)
  have hadd : ∀ j, (⟨g, 0, none⟩ : Addr).add j = ⟨g, j, none⟩ := fun j => by unfold Addr.add; split <;> simp_all
  have hj : ∀ j v, j < 7 → (enC p)[j]? = some v → w.cell? ⟨g, k * 7 + j, none⟩ = some v := fun j v hj hv => by
    rw [← hadd]
    exact hc _ _ (by rw [rowM_at M k j p hk hj, hv])
  exact ⟨g, cap, hv, ⟨hj 0 _ (by omega) rfl, hj 1 _ (by omega) rfl, hj 2 _ (by omega) rfl, hj 3 _ (by omega) rfl, hj 4 _ (by omega) rfl, hj 5 _ (by omega) rfl, hj 6 _ (by omega) rfl⟩, hg⟩

theorem row_form {w : World} {B : Nat} {e : TypeId} {size : Nat} {v : Value} {n : Nat} {xs : List Value} (h : w.ownsRow B e size v n xs) : ∃ ao cap, v = .slice ao n cap := by
  rcases h.2 with ⟨h1, h2⟩ | ⟨g, cap, _, h1, _⟩
  · exact ⟨none, 0, by rw [h1, h2]⟩
  · exact ⟨_, cap, h1⟩
theorem row_below {w w' : World} {B : Nat} {e : TypeId} {size : Nat} {v : Value} {n : Nat} {xs : List Value} (h : w.ownsRow B e size v n xs) (hb : Below w.heap.size w w') : w'.ownsRow B e size v n xs :=
  ownsRow_kept h fun g hg => hb.block g (h.lt g hg).2

/-! ### Compare -/
set_option maxRecDepth 100000 in
theorem CompareString_any (w : World) (a b : ByteArray) : Calls Tryd.prog 110 #[.string a, .string b] w fun e w' => e = .returned (.int .i64 (cmpB a b)) ∧ w' = w := by
  go_enter Tryd.func110, Tryd.ntmps110
  go_wp2
  rw [run_callFunc_extern Tryd.func129 (by kernel_rfl) (by kernel_rfl) (by kernel_rfl) (e := Extern.BytealgCompare.compare) (by kernel_rfl), Lib.run_compareString]
  simp only [Result.andThen]
  rw [Oper.upon_value]
  go_wp2
  go_ret
  exact ⟨rfl, rfl⟩
theorem Compare_any (w : World) (a b : ByteArray) : Calls Tryd.prog 84 #[.string a, .string b] w fun e w' => e = .returned (.int .i64 (cmpB a b)) ∧ w' = w := by
  go_enter Tryd.func84, Tryd.ntmps84
  go_wp2_with fail
  refine (CompareString_any w a b).mono ?_
  rintro e w1 ⟨rfl, rfl⟩
  go_wp2_with fail
  go_ret
  exact ⟨rfl, rfl⟩
theorem find1_cmp (w : World) (p : Pl) (q : ByteArray) : Calls Tryd.prog 83 #[enV p, .string q] w fun e w' => e = .returned (.int .i64 (cmpB p.node.path q)) ∧ Below w.heap.size w w' := by
  unfold enV
  go_enter Tryd.func83, Tryd.ntmps83
  go_wp2_with fail
  refine (Compare_any _ p.node.path q).mono ?_
  rintro e w1 ⟨rfl, rfl⟩
  go_wp2_with fail
  go_ret
  exact ⟨rfl, (Below.refl _ _).alloc (Nat.le_refl _) _⟩

/-- Where a path stands in a map, or would. -/
structure IsPos (M : List Pl) (q : ByteArray) (i : Nat) : Prop where
  le : i ≤ M.length
  lo : ∀ k p, k < i → M[k]? = some p → cmpB p.node.path q < 0
  hi : ∀ k p, i ≤ k → M[k]? = some p → 0 ≤ cmpB p.node.path q
/-- .. does it stand there? -/
def thereAt (M : List Pl) (q : ByteArray) (i : Nat) : Bool := match M[i]? with
  | some p => cmpB p.node.path q == 0
  | none => false
/-- The paths are in order. -/
def Ord (M : List Pl) : Prop := M.Pairwise fun a b => cmpB a.node.path b.node.path < 0
theorem Ord.at {M : List Pl} (h : Ord M) {i j : Nat} {a b : Pl} (hi : M[i]? = some a) (hj : M[j]? = some b) (hij : i < j) : cmpB a.node.path b.node.path < 0 := by
  obtain ⟨hi', rfl⟩ := List.getElem?_eq_some_iff.1 hi
  obtain ⟨hj', rfl⟩ := List.getElem?_eq_some_iff.1 hj
  exact List.pairwise_iff_getElem.1 h i j hi' hj' hij

set_option maxRecDepth 100000 in
set_option maxHeartbeats 3200000 in
theorem bsearch_any (w : World) (B : Nat) (v : Value) (M : List Pl) (q : ByteArray) (h : w.ownsRow B 124 7 v M.length (rowM M)) (hord : Ord M) (hm : M.length ≤ 1000000) :
    Calls Tryd.prog 82 #[v, .string q, .func (.func 83) #[] #[]] w fun e w' => ∃ i : Nat, e = .returned (.tuple #[.int .i64 (i : Int), .bool (thereAt M q i)]) ∧ IsPos M q i ∧ Below w.heap.size w w' := by
  obtain ⟨ao, cap, rfl⟩ := row_form h
  have HO := hide hord
  clear hord
  go_enter Tryd.func82, Tryd.ntmps82
  go_wp2_with fail
  go_loopw [9, 10] (fun a b wr => ∃ i j : Nat, a = .int .i64 i ∧ b = .int .i64 j ∧ i ≤ j ∧ j ≤ M.length ∧ (∀ k p, k < i → M[k]? = some p → cmpB p.node.path q < 0) ∧ (∀ k p, j ≤ k → M[k]? = some p → 0 ≤ cmpB p.node.path q) ∧ Below w.heap.size w wr) (fun a b _ => (intOf b).toNat - (intOf a).toNat)
  case atStart =>
    refine ⟨0, M.length, rfl, rfl, Nat.zero_le _, Nat.le_refl _, fun k p hk => by omega, fun k p hk hp => ?_, Below.refl _ _⟩
    rw [List.getElem?_eq_none hk] at hp; cases hp
  case round =>
    obtain ⟨i, j, rfl, rfl, hij, hj, hlo, hhi, hb⟩ := hrel
    have HL := hide hlo
    have HH := hide hhi
    clear hlo hhi
    by_cases hlt : i < j
    · obtain ⟨m, hm'⟩ : ∃ m : Nat, m = (i + j) / 2 := ⟨_, rfl⟩
      have he : ((i : Int) + (j : Int)) / 2 = (m : Int) := by omega
      have hm1 : m < M.length := by omega
      obtain ⟨p, hp⟩ : ∃ p, M[m]? = some p := ⟨_, List.getElem?_eq_getElem hm1⟩
      have hr := row_below h hb
      obtain ⟨g, cap', hv, ⟨c0, c1, c2, c3, c4, c5, c6⟩, hg⟩ := row7_at hr m p hp
      simp only [Value.slice.injEq, true_and] at hv
      obtain ⟨rfl, rfl⟩ := hv
      have m0 : (0 : Int) ≤ (i : Int) + (j : Int) := by omega
      have i0 : (0 : Int) ≤ (m : Int) := Int.natCast_nonneg _
      have i1 : (m : Int) < (M.length : Int) := by omega
      have HP := hide hp
      have HM := hide hm'
      clear hp hm'
      go_wp2_with fail
      refine (find1_cmp wr p q).mono ?_
      rintro e w1 ⟨rfl, hb1⟩
      have hbw := hb.trans (hb1.mono hb.size)
      by_cases hc : cmpB p.node.path q < 0
      · go_wp2_with fail
        go_roundw
        case rel =>
          refine ⟨m + 1, j, by go_num, rfl, ?_, hj, ?_, unhide HH, hbw⟩
          · have := unhide HM; omega
          · intro k p' hk hp'
            rcases Nat.lt_or_eq_of_le (Nat.le_of_lt_succ hk) with hk | rfl
            · exact cmpB_trans ((unhide HO).at hp' (unhide HP) hk) hc
            · rw [unhide HP] at hp'; cases hp'; exact hc
        case measure =>
          have := unhide HM
          simp [intOf]; omega
      · have hc' : 0 ≤ cmpB p.node.path q := by omega
        go_wp2_with fail
        go_roundw
        case rel =>
          refine ⟨i, m, rfl, by go_num, ?_, by omega, unhide HL, ?_, hbw⟩
          · have := unhide HM; omega
          · intro k p' hk hp'
            rcases Nat.lt_or_eq_of_le hk with hk | rfl
            · have h1 := (unhide HO).at (unhide HP) hp' hk
              rcases Int.lt_or_le (cmpB p'.node.path q) 0 with h2 | h2
              · have := cmpB_trans h1 h2; omega
              · exact h2
            · rw [unhide HP] at hp'; cases hp'; exact hc'
        case measure =>
          have := unhide HM
          simp [intOf]; omega
    · have hij' : i = j := by omega
      subst hij'
      have hpos : IsPos M q i := ⟨hj, unhide HL, unhide HH⟩
      have HP := hide hpos
      clear hpos
      by_cases hn : i < M.length
      · obtain ⟨p, hp⟩ : ∃ p, M[i]? = some p := ⟨_, List.getElem?_eq_getElem hn⟩
        have hr := row_below h hb
        obtain ⟨g, cap', hv, ⟨c0, c1, c2, c3, c4, c5, c6⟩, hg⟩ := row7_at hr i p hp
        simp only [Value.slice.injEq, true_and] at hv
        obtain ⟨rfl, rfl⟩ := hv
        have i0 : (0 : Int) ≤ (i : Int) := Int.natCast_nonneg _
        have i1 : (i : Int) < (M.length : Int) := by omega
        have HT : Hid (thereAt M q i = (cmpB p.node.path q == 0)) := by show thereAt M q i = _; simp [thereAt, hp]
        clear hp
        go_wp2_with fail
        refine (find1_cmp wr p q).mono ?_
        rintro e w1 ⟨rfl, hb1⟩
        have hbw := hb.trans (hb1.mono hb.size)
        go_wp2_with fail
        go_ret2
        exact ⟨i, by rw [unhide HT]; rfl, unhide HP, hbw⟩
      · have HT : Hid (thereAt M q i = false) := by show thereAt M q i = _; simp [thereAt, List.getElem?_eq_none (Nat.le_of_not_lt hn)]
        go_wp2_with fail
        go_ret2
        exact ⟨i, by rw [unhide HT]; rfl, unhide HP, hb⟩

/-- A map in memory. -/
structure MAt (w : World) (B bm : Nat) (ev : Value) (M : List Pl) : Prop where
  own : w.heap[bm]? = some (.cells #[ev] 127 (0, 0))
  row : w.ownsRow B 124 7 ev M.length (rowM M)
  b0 : B ≤ bm
  ne : ev.ownBlock ≠ some bm
theorem MAt.cell {w : World} {B bm : Nat} {ev : Value} {M : List Pl} (h : MAt w B bm ev M) : w.cell? ⟨bm, 0, none⟩ = some ev := by rw [cell_of_row w bm 0 _ _ _ h.own]; rfl
theorem MAt.fz {w : World} {B bm : Nat} {ev : Value} {M : List Pl} (h : MAt w B bm ev M) (i : Nat) : w.frozen? ⟨bm, i, none⟩ = false := frozen_of_row w bm i _ _ h.own
theorem MAt.lt {w : World} {B bm : Nat} {ev : Value} {M : List Pl} (h : MAt w B bm ev M) : bm < w.heap.size := lt_of_heap h.own
theorem MAt.kept {w w' : World} {B bm : Nat} {ev : Value} {M : List Pl} (h : MAt w B bm ev M) (hk : ∀ k, k < w.heap.size → (k = bm ∨ ev.ownBlock = some k) → w'.heap[k]? = w.heap[k]?) : MAt w' B bm ev M :=
  ⟨(hk bm h.lt (.inl rfl)).trans h.own, ownsRow_kept h.row fun g hg => hk g (h.row.lt g hg).2 (.inr hg), h.b0, h.ne⟩
theorem MAt.below {w w' : World} {B bm : Nat} {ev : Value} {M : List Pl} (h : MAt w B bm ev M) (hb : Below w.heap.size w w') : MAt w' B bm ev M := h.kept fun k hk _ => hb.block k hk

theorem mfind_any (w : World) (B bm : Nat) (ev : Value) (M : List Pl) (q : ByteArray) (h : MAt w B bm ev M) (hord : Ord M) (hm : M.length ≤ 1000000) :
    Calls Tryd.prog 61 #[.pointer (some ⟨bm, 0, none⟩), .string q] w fun e w' => ∃ i : Nat, e = .returned (.tuple #[.int .i64 (i : Int), .bool (thereAt M q i)]) ∧ IsPos M q i ∧ Below w.heap.size w w' := by
  have c := h.cell
  go_enter Tryd.func61, Tryd.ntmps61
  go_wp2_with fail
  refine (bsearch_any w B ev M q h.row hord hm).mono ?_
  rintro e w1 ⟨i, rfl, hi, hb⟩
  go_wp2_with fail
  go_ret2
  exact ⟨i, rfl, hi, hb⟩

theorem mlen_any (w : World) (B bm : Nat) (ev : Value) (M : List Pl) (h : MAt w B bm ev M) :
    Calls Tryd.prog 37 #[.pointer (some ⟨bm, 0, none⟩)] w fun e w' => e = .returned (.int .i64 (M.length : Int)) ∧ w' = w := by
  have c := h.cell
  obtain ⟨ao, cap, rfl⟩ := row_form h.row
  go_enter Tryd.func37, Tryd.ntmps37
  go_wp2_with fail
  go_ret
  exact ⟨rfl, rfl⟩
end Go.Proofs.YtcbindgpbeaebaaDoor
