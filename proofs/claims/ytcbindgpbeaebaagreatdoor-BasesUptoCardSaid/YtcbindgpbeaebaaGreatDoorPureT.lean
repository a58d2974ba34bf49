import Derived.Test.YtcbindgpbeaebaaGreatDoorSlotB
namespace Go.Proofs.YtcbindgpbeaebaaGreatDoor
open Go.RowKit Go.Deep

theorem idx_neg : ∀ (l : List (Nat × ByteArray)) (a : Int), idx l a < 0 → ∀ p ∈ l, (p.1 : Int) ≠ a
  | [], _, _, p, hp => by simp at hp
  | q :: r, a, h, p, hp => by
    unfold idx at h
    split at h
    · omega
    · next hq =>
      split at h
      · next hr =>
        rcases List.mem_cons.1 hp with rfl | hp
        · exact hq
        · exact idx_neg r a hr p hp
      · omega
def keys (ps : List (Nat × ByteArray)) : List Nat := ps.map (·.1)
theorem keys_putP (ps : List (Nat × ByteArray)) (a : Nat) (s : ByteArray) : keys (putP ps a s) = if a ∈ keys ps then keys ps else keys ps ++ [a] := by
  unfold putP keys
  by_cases h : 0 ≤ idx ps (a : Int)
  · obtain ⟨p, hp, he⟩ := idx_at ps a h
    have hpa : p.1 = a := by omega
    have hmem : a ∈ ps.map (·.1) := by
      rw [List.mem_map]
      exact ⟨p, List.mem_of_getElem? hp, hpa⟩
    rw [if_pos h, if_pos hmem, List.map_set]
    apply List.ext_getElem?
    intro j
    rw [List.getElem?_set]
    split
    · next e =>
      subst e
      rw [List.getElem?_map, hp]
      have hl := (List.getElem?_eq_some_iff.1 hp).1
      simp [hl, hpa]
    · rfl
  · have hn : ¬ a ∈ ps.map (·.1) := by
      rw [List.mem_map]
      rintro ⟨p, hp, e⟩
      exact idx_neg ps a (by omega) p hp (by omega)
    rw [if_neg h, if_neg hn]
    simp
/-- What was put, so far: no block twice, all within the slots, of the second blocks no more than c. -/
structure PsB (c : Nat) (ps : List (Nat × ByteArray)) : Prop where
  nd : (keys ps).Nodup
  lt : ∀ k ∈ keys ps, k < 120
  odd : ((keys ps).filter fun k => k % 2 == 1).length ≤ c
  sz : ∀ p ∈ ps, p.2.size = 256
theorem putP_mem {ps : List (Nat × ByteArray)} {a : Nat} {s : ByteArray} {p : Nat × ByteArray} (h : p ∈ putP ps a s) : p ∈ ps ∨ p = (a, pad s) := by
  unfold putP at h
  split at h
  · exact List.mem_or_eq_of_mem_set h
  · simpa using h
theorem putP_sz {ps : List (Nat × ByteArray)} {a : Nat} {s : ByteArray} (h : ∀ p ∈ ps, p.2.size = 256) (hs : s.size ≤ 256) : ∀ p ∈ putP ps a s, p.2.size = 256 := fun p hp => by
  rcases putP_mem hp with hp | rfl
  · exact h p hp
  · exact pad_size hs
theorem nodup_lt : ∀ (n : Nat) (L : List Nat), L.Nodup → (∀ x ∈ L, x < n) → L.length ≤ n
  | 0, L, _, h => by
    cases L with
    | nil => simp
    | cons a r => have := h a (by simp); omega
  | n + 1, L, hd, h => by
    by_cases hn : n ∈ L
    · have ih := nodup_lt n (L.erase n) (hd.erase n) fun x hx => by
        have h1 := h x (List.mem_of_mem_erase hx)
        have h2 : x ≠ n := fun e => by subst e; exact (List.Nodup.not_mem_erase hd) hx
        omega
      rw [List.length_erase_of_mem hn] at ih
      omega
    · have := nodup_lt n L hd fun x hx => by
        have h1 := h x hx
        have h2 : x ≠ n := fun e => hn (e ▸ hx)
        omega
      omega
theorem PsB.len {c : Nat} {ps : List (Nat × ByteArray)} (h : PsB c ps) : ps.length ≤ 60 + c := by
  have e1 : ps.length = (keys ps).length := by simp [keys]
  have e2 : (keys ps).length = ((keys ps).filter fun k => k % 2 == 1).length + ((keys ps).filter fun k => !(k % 2 == 1)).length := by
    induction keys ps with
    | nil => rfl
    | cons a r ih => by_cases ha : a % 2 == 1 <;> simp_all <;> omega
  have e3 : (((keys ps).filter fun k => !(k % 2 == 1)).map (· / 2)).length ≤ 60 := by
    apply nodup_lt
    · rw [List.nodup_iff_pairwise_ne, List.pairwise_map]
      have := (h.nd.filter fun k => !(k % 2 == 1))
      refine List.Pairwise.imp_of_mem ?_ this
      intro a b ha hb hne e
      simp at ha hb
      omega
    · intro x hx
      rw [List.mem_map] at hx
      obtain ⟨y, hy, rfl⟩ := hx
      have := h.lt y (List.mem_filter.1 hy).1
      omega
  rw [List.length_map] at e3
  have := h.odd
  omega
theorem PsB.even {c : Nat} {ps : List (Nat × ByteArray)} (h : PsB c ps) (s : Nat) (hs : s < 60) (x : ByteArray) (hx : x.size ≤ 256) : PsB c (putP ps (2 * s) x) := by
  have hsz := putP_sz (a := 2 * s) h.sz hx
  have hk := keys_putP ps (2 * s) x
  by_cases hm : 2 * s ∈ keys ps
  · rw [if_pos hm] at hk
    exact ⟨by rw [hk]; exact h.nd, by rw [hk]; exact h.lt, by rw [hk]; exact h.odd, hsz⟩
  · rw [if_neg hm] at hk
    refine ⟨by rw [hk]; exact List.nodup_append.2 ⟨h.nd, by simp, fun a ha b hb e => by simp at hb; subst hb; subst e; exact hm ha⟩, fun k hk' => ?_, ?_, hsz⟩
    · rw [hk, List.mem_append] at hk'
      rcases hk' with h1 | h1
      · exact h.lt k h1
      · simp at h1; omega
    · rw [hk, List.filter_append]
      have : ([2 * s].filter fun k => k % 2 == 1) = [] := by simp
      rw [this]
      simpa using h.odd
theorem PsB.odd1 {c : Nat} {ps : List (Nat × ByteArray)} (h : PsB c ps) (s : Nat) (hs : s < 60) (x : ByteArray) (hx : x.size ≤ 256) : PsB (c + 1) (putP ps (2 * s + 1) x) := by
  have hsz := putP_sz (a := 2 * s + 1) h.sz hx
  have hk := keys_putP ps (2 * s + 1) x
  have ho := h.odd
  by_cases hm : 2 * s + 1 ∈ keys ps
  · rw [if_pos hm] at hk
    exact ⟨by rw [hk]; exact h.nd, by rw [hk]; exact h.lt, by rw [hk]; omega, hsz⟩
  · rw [if_neg hm] at hk
    refine ⟨by rw [hk]; exact List.nodup_append.2 ⟨h.nd, by simp, fun a ha b hb e => by simp at hb; subst hb; subst e; exact hm ha⟩, fun k hk' => ?_, ?_, hsz⟩
    · rw [hk, List.mem_append] at hk'
      rcases hk' with h1 | h1
      · exact h.lt k h1
      · simp at h1; omega
    · rw [hk, List.filter_append]
      simp
      omega
theorem PsB.nil (c : Nat) : PsB c [] := ⟨by simp [keys], by simp [keys], by simp [keys], by simp⟩
theorem PsB.put2 {c : Nat} {ps : List (Nat × ByteArray)} (h : PsB c ps) (s : Nat) (hs : s < 60) (t : ByteArray) (ht : t.size ≤ 512) : PsB (c + 1) (put2 ps s t) :=
  (h.even s hs _ (by rw [ByteArray.size_extract]; omega)).odd1 s hs _ (by rw [ByteArray.size_extract]; omega)

/-- What stands of a block behind a put. -/
theorem lastOf_app : ∀ (l : List (Nat × ByteArray)) (x : Nat × ByteArray) (i : Nat), lastOf (l ++ [x]) i = if x.1 = i then some x.2 else lastOf l i
  | [], x, i => by simp [lastOf]
  | y :: r, x, i => by
    have ih := lastOf_app r x i
    simp only [List.cons_append, lastOf, ih]
    by_cases h : x.1 = i
    · simp [h]
    · simp [h]
theorem lastOf_nodup : ∀ (l : List (Nat × ByteArray)) (j : Nat) (p : Nat × ByteArray), (keys l).Nodup → l[j]? = some p → lastOf l p.1 = some p.2
  | [], _, _, _, h => by simp at h
  | y :: r, 0, p, hd, h => by
    simp at h; subst h
    have hn : lastOf r y.1 = none := by
      refine lastOf_none_of fun x hx e => ?_
      simp only [keys, List.map_cons, List.nodup_cons] at hd
      exact hd.1 (List.mem_map.2 ⟨x, hx, e⟩)
    simp [lastOf, hn]
  | y :: r, j + 1, p, hd, h => by
    have := lastOf_nodup r j p (by simp only [keys, List.map_cons, List.nodup_cons] at hd; exact hd.2) (by simpa using h)
    simp [lastOf, this]
theorem lastOf_set_ne : ∀ (l : List (Nat × ByteArray)) (j : Nat) (x : Nat × ByteArray) (i : Nat), x.1 ≠ i → (∀ p, l[j]? = some p → p.1 ≠ i) → lastOf (l.set j x) i = lastOf l i
  | [], _, _, _, _, _ => by simp
  | y :: r, 0, x, i, h, hp => by
    have := hp y rfl
    simp [lastOf, h, this]
  | y :: r, j + 1, x, i, h, hp => by
    have ih := lastOf_set_ne r j x i h fun p hp' => hp p (by simpa using hp')
    simp [lastOf, ih]
theorem lastOf_putP (ps : List (Nat × ByteArray)) (a : Nat) (s : ByteArray) (hd : (keys ps).Nodup) (i : Nat) : lastOf (putP ps a s) i = if a = i then some (pad s) else lastOf ps i := by
  have hk := keys_putP ps a s
  unfold putP at hk ⊢
  by_cases h : 0 ≤ idx ps (a : Int)
  · obtain ⟨p, hp, he⟩ := idx_at ps a h
    have hpa : p.1 = a := by omega
    have hl := (List.getElem?_eq_some_iff.1 hp).1
    have hmem : a ∈ keys ps := List.mem_map.2 ⟨p, List.mem_of_getElem? hp, hpa⟩
    rw [if_pos h] at hk ⊢
    rw [if_pos hmem] at hk
    by_cases e : a = i
    · rw [if_pos e]
      subst e
      exact lastOf_nodup _ (idx ps (a : Int)).toNat (a, pad s) (by rw [hk]; exact hd) (by rw [List.getElem?_set]; simp [hl])
    · rw [if_neg e]
      exact lastOf_set_ne ps _ _ i e fun q hq => by rw [hp] at hq; cases hq; omega
  · rw [if_neg h]
    exact lastOf_app ps (a, pad s) i
end Go.Proofs.YtcbindgpbeaebaaGreatDoor

namespace Go.Proofs.YtcbindgpbeaebaaGreatDoor
open Go.RowKit Go.Deep
attribute [local go_sem ↓] Go.wp_at_zero Go.wp_at_succ

/-- Is it at a path, or below it? -/
def hit (q : ByteArray) (p : Pl) : Bool := (p.node.path.toList == q.toList) || belowB p.node.path q
/-- What taking some of the nodes leaves. -/
def takeSt (q : ByteArray) (st : List Pl × List (Nat × ByteArray)) (xs : List Pl) : List Pl × List (Nat × ByteArray) :=
  xs.foldl (fun st p => if hit q p then (delM st.1 p.node.path, putP st.2 (2 * p.slot) ⟨#[]⟩) else st) st
theorem takeSt_snoc (q : ByteArray) (st : List Pl × List (Nat × ByteArray)) (xs : List Pl) (p : Pl) : takeSt q st (xs ++ [p]) = if hit q p then (delM (takeSt q st xs).1 p.node.path, putP (takeSt q st xs).2 (2 * p.slot) ⟨#[]⟩) else takeSt q st xs := by
  simp [takeSt, List.foldl_append]
theorem delM_ord {M : List Pl} (h : Ord M) (q : ByteArray) : Ord (delM M q) := List.Pairwise.filter _ h
theorem delM_len (M : List Pl) (q : ByteArray) : (delM M q).length ≤ M.length := List.length_filter_le _ _
theorem takeSt_ok (q : ByteArray) (c : Nat) : ∀ (xs : List Pl) (st : List Pl × List (Nat × ByteArray)), Ord st.1 → PsB c st.2 → (∀ p ∈ xs, p.slot < 60) → Ord (takeSt q st xs).1 ∧ (takeSt q st xs).1.length ≤ st.1.length ∧ PsB c (takeSt q st xs).2
  | [], st, h1, h2, _ => ⟨h1, Nat.le_refl _, h2⟩
  | p :: r, st, h1, h2, h3 => by
    have e : takeSt q st (p :: r) = takeSt q (if hit q p then (delM st.1 p.node.path, putP st.2 (2 * p.slot) ⟨#[]⟩) else st) r := rfl
    rw [e]
    split
    · have := takeSt_ok q c r (delM st.1 p.node.path, putP st.2 (2 * p.slot) ⟨#[]⟩) (delM_ord h1 _) (h2.even _ (h3 p (by simp)) _ (by decide)) fun x hx => h3 x (by simp [hx])
      have hl := delM_len st.1 p.node.path
      exact ⟨this.1, Nat.le_trans this.2.1 hl, this.2.2⟩
    · exact takeSt_ok q c r st h1 h2 fun x hx => h3 x (by simp [hx])

/-- A block of another type stays. -/
theorem Tx.other {K : Kp} {w0 w w' : World} {B bl bd bs : Nat} {pv0 pv lv : Value} {ps : List (Nat × ByteArray)} {d : Dk} {bm : Nat} {ev ev' : Value} {M : List Pl} (h : Tx K w0 w B bl bd bs pv0 pv lv ps d bm ev M) (st : DStep bm bm ev ev' w w') {k : Nat} {cs : Array Value} {t : TypeId} (hk : w.heap[k]? = some (.cells cs t (0, 0))) (h1 : t ≠ 194) (h2 : t ≠ 191) : w'.heap[k]? = w.heap[k]? :=
  st.block k (lt_of_heap hk) (ty_ne hk h.map.own h1) (ty_ne hk h.map.own h1) (row_ty h.map.row hk (Ne.symm h2))
theorem Tx.otherL {K : Kp} {w0 w w' : World} {B bl bd bs : Nat} {pv0 pv pv' lv : Value} {ps : List (Nat × ByteArray)} {d : Dk} {bm : Nat} {ev : Value} {M : List Pl} (h : Tx K w0 w B bl bd bs pv0 pv lv ps d bm ev M) (st : DStep bl bl pv pv' w w') {k : Nat} {cs : Array Value} {t : TypeId} (hk : w.heap[k]? = some (.cells cs t (0, 0))) (h1 : t ≠ 183) (h2 : t ≠ 244) : w'.heap[k]? = w.heap[k]? :=
  st.block k (lt_of_heap hk) (ty_ne hk h.sys.log.own h1) (ty_ne hk h.sys.log.own h1) (row_ty h.sys.log.puts hk (Ne.symm h2))

theorem rowP_at : ∀ (xs : List Ps) (k j : Nat) (x : Ps), xs[k]? = some x → j < 6 → (rowP xs)[k * 6 + j]? = (plC x.1)[j]?
  | [], k, j, p, h, _ => by simp at h
  | q :: r, 0, j, p, h, hj => by
    simp at h; subst h
    rw [Nat.zero_mul, Nat.zero_add, rowP, List.flatMap_cons, List.getElem?_append_left (by simp [plC]; omega)]
  | q :: r, k + 1, j, p, h, hj => by
    have ih := rowP_at r k j p (by simpa using h) hj
    rw [rowP, List.flatMap_cons, List.getElem?_append_right (by simp [plC]; omega), ← ih, rowP]
    congr 1
    simp [plC]; omega
theorem row6_at {w : World} {B : Nat} {v : Value} {xs : List Ps} (h : w.ownsRow B 148 6 v xs.length (rowP xs)) (k : Nat) (x : Ps) (hk : xs[k]? = some x) :
    ∃ g cap, v = .slice (some ⟨g, 0, none⟩) xs.length cap ∧ w.cell? ⟨g, k * 6, none⟩ = some (.int .i64 (x.1.slot : Int)) ∧ w.cell? ⟨g, k * 6 + 1, none⟩ = some (.string x.1.node.path) ∧ w.cell? ⟨g, k * 6 + 2, none⟩ = some (.int .i64 x.1.node.kind) ∧ w.cell? ⟨g, k * 6 + 3, none⟩ = some (.int .i64 x.1.node.mode) ∧ w.cell? ⟨g, k * 6 + 4, none⟩ = some (.int .i64 x.1.node.tag) ∧ w.cell? ⟨g, k * 6 + 5, none⟩ = some (.string x.1.node.data) := by
  have hl : k < xs.length := (List.getElem?_eq_some_iff.1 hk).1
  obtain ⟨g, cap, hv, _, hg⟩ := h.form (by omega)
  have hc := h.cells (g := g) (by rw [hv]; rfl)
  have hadd : ∀ j, (⟨g, 0, none⟩ : Addr).add j = ⟨g, j, none⟩ := fun j => by unfold Addr.add; split <;> simp_all
  have hj : ∀ j v, j < 6 → (plC x.1)[j]? = some v → w.cell? ⟨g, k * 6 + j, none⟩ = some v := fun j v hj hv => by
    rw [← hadd]
    exact hc _ _ (by rw [rowP_at xs k j x hk hj, hv])
  exact ⟨g, cap, hv, hj 0 _ (by omega) rfl, hj 1 _ (by omega) rfl, hj 2 _ (by omega) rfl, hj 3 _ (by omega) rfl, hj 4 _ (by omega) rfl, hj 5 _ (by omega) rfl⟩

def TakePost (K : Kp) (w0 : World) (B bl bd bs : Nat) (pv0 pv lv : Value) (ps : List (Nat × ByteArray)) (d : Dk) (bm : Nat) (ev : Value) (M : List Pl) (q : ByteArray) (e : Ending) (w' : World) : Prop :=
  (getM M q = none ∧ e = .returned (.int .i64 4) ∧ Tx K w0 w' B bl bd bs pv0 pv lv ps d bm ev M) ∨
    ((getM M q).isSome = true ∧ e = .returned (.int .i64 0) ∧ ∃ pv' ev', Tx K w0 w' B bl bd bs pv0 pv' lv (takeSt q (M, ps) M).2 d bm ev' (takeSt q (M, ps) M).1)
/-- What stands between two rounds of a take. -/
def TakeRel (K : Kp) (w0 : World) (B bl bd bs : Nat) (pv0 lv : Value) (d : Dk) (bm bk : Nat) (v : Value) (xs : List Ps) (st : List Pl × List (Nat × ByteArray)) (wr : World) : Prop :=
  ∃ pvk evk, Tx K w0 wr B bl bd bs pv0 pvk lv st.2 d bm evk st.1 ∧ wr.ownsRow 0 148 6 v xs.length (rowP xs) ∧ wr.heap[bk]? = some (.cells #[.pointer (some ⟨bl, 0, none⟩), .pointer (some ⟨bm, 0, none⟩)] 186 (0, 0))

set_option maxRecDepth 100000 in
set_option maxHeartbeats 6400000 in
theorem take_any {K : Kp} (w0 w : World) (B bl bd bs : Nat) (pv0 pv lv : Value) (ps : List (Nat × ByteArray)) (d : Dk) (bm : Nat) (ev : Value) (M : List Pl) (q : ByteArray) (c : Nat) (tx : Tx K w0 w B bl bd bs pv0 pv lv ps d bm ev M) (hord : Ord M) (hM : M.length ≤ 60) (hsl : ∀ p ∈ M, p.slot < 60)
    (hn : d.safe.length ≤ 4096) (hn3 : 300 ≤ d.safe.length) (hp : PsB c ps) (hc : c ≤ 12) (hq : q.size ≤ 4611686018427387904) :
    Calls Tryz.prog 152 #[wkV bl bm, .string q] w (TakePost K w0 B bl bd bs pv0 pv lv ps d bm ev M q) := by
  obtain ⟨W, hW⟩ : ∃ W, W = w.alloc (.cells #[.pointer (some ⟨bl, 0, none⟩), .pointer (some ⟨bm, 0, none⟩)] 186) := ⟨_, rfl⟩
  have hB0 : Below w.heap.size w W := by rw [hW]; exact (Below.refl _ w).alloc (Nat.le_refl _) _
  have b0 : W.heap[w.heap.size]? = some (.cells #[.pointer (some ⟨bl, 0, none⟩), .pointer (some ⟨bm, 0, none⟩)] 186 (0, 0)) := by rw [hW]; exact heap_alloc_new w _
  have tx0 := tx.below hB0
  have hg := mget_any W w0.heap.size bm ev M q tx0.map hord (by omega)
  have HG := hide hg
  clear hg
  unfold wkV
  cases hgm : getM M q with
  | none =>
    have HGM := hide hgm
    clear hgm
    go_enter Tryz.func152, Tryz.ntmps152
    go_wp2_with fail
    rw [← hW]
    refine (unhide HG).mono ?_
    rintro e w1 ⟨rfl, hb1⟩
    rw [unhide HGM]
    unfold optPl zPl
    rw [show (none : Option Pl).isSome = false from rfl]
    go_wp2_with fail
    go_ret
    exact .inl ⟨unhide HGM, rfl, (tx0.below hb1).below ((Below.refl _ w1).alloc (Nat.le_refl _) _)⟩
  | some old =>
    have HGM := hide hgm
    clear hgm
    obtain ⟨xs, hxs⟩ : ∃ xs : List Ps, xs.map (·.1) = M := ⟨M.attach.map fun p => ⟨p.1, hsl p.1 p.2⟩, by simp⟩
    have hxl : xs.length = M.length := by rw [← hxs, List.length_map]
    go_enter Tryz.func152, Tryz.ntmps152
    go_wp2_with fail
    rw [← hW]
    refine (unhide HG).mono ?_
    rintro e w1 ⟨rfl, hb1⟩
    rw [unhide HGM]
    unfold optPl plV
    rw [show (some old : Option Pl).isSome = true from rfl]
    obtain ⟨W2, hW2⟩ : ∃ W2, W2 = w1.alloc (.cells #[.int .i64 (old.slot : Int), .string old.node.path, .int .i64 old.node.kind, .int .i64 old.node.mode, .int .i64 old.node.tag, .string old.node.data] 148) := ⟨_, rfl⟩
    have hb2 : Below w1.heap.size w1 W2 := by rw [hW2]; exact (Below.refl _ w1).alloc (Nat.le_refl _) _
    have tx2 := (tx0.below hb1).below hb2
    have b2 : W2.heap[w.heap.size]? = some (.cells #[.pointer (some ⟨bl, 0, none⟩), .pointer (some ⟨bm, 0, none⟩)] 186 (0, 0)) := by
      rw [hb2.block _ (by have := hb1.size; have := lt_of_heap b0; omega), hb1.block _ (lt_of_heap b0)]; exact b0
    have c1 : (w1.alloc (.cells #[.int .i64 (old.slot : Int), .string old.node.path, .int .i64 old.node.kind, .int .i64 old.node.mode, .int .i64 old.node.tag, .string old.node.data] 148)).cell? ⟨w.heap.size, 1, none⟩ = some (.pointer (some ⟨bm, 0, none⟩)) := by
      rw [← hW2, cell_of_row W2 _ _ _ _ _ b2]; rfl
    go_wp2_with fail
    rw [← hW2]
    refine (all_any W2 bm).mono ?_
    rintro e w3 ⟨rfl, hw3⟩
    have hb3 : Below W2.heap.size W2 w3 := by rw [hw3]; exact (Below.refl _ W2).alloc (Nat.le_refl _) _
    have tx3 := tx2.below hb3
    have cB : w3.cell? ⟨W2.heap.size, 0, none⟩ = some (.pointer (some ⟨bm, 0, none⟩)) := by rw [hw3, cell_of_row _ _ _ _ _ _ (heap_alloc_new W2 _)]; rfl
    have hs2 : W2.heap.size = w1.heap.size + 1 := by rw [hW2]; simp
    rw [hs2] at cB
    have hcol := collect_any w3 (w1.heap.size + 1) w0.heap.size bm ev M xs hxs cB tx3.map (by omega)
    have HCOL := hide hcol
    clear hcol hw3
    go_wp2_with fail
    refine (unhide HCOL).mono ?_
    rintro e w4 ⟨v, rfl, hrow, hb4⟩
    have tx4 := tx3.below hb4
    have b4 : w4.heap[w.heap.size]? = some (.cells #[.pointer (some ⟨bl, 0, none⟩), .pointer (some ⟨bm, 0, none⟩)] 186 (0, 0)) := by
      rw [hb4.block _ (by have := hb3.size; have := lt_of_heap b2; omega), hb3.block _ (lt_of_heap b2)]; exact b2
    obtain ⟨ao, cap, hv⟩ := row_form hrow
    subst hv
    have hrow0 : w4.ownsRow 0 148 6 (.slice ao xs.length cap) xs.length (rowP xs) := by
      refine ⟨hrow.1, ?_⟩
      rcases hrow.2 with h | ⟨g, cp, cur, a1, _, a3⟩
      · exact .inl h
      · exact .inr ⟨g, cp, cur, a1, Nat.zero_le _, a3⟩
    have HTX4 := hide tx4
    have HROW := hide hrow0
    have HB4 := hide b4
    clear tx2 tx3 tx4 hrow hrow0 b4 b2 cB c1
    go_wp2_with fail
    go_loopw [24] (fun i wr => ∃ k : Nat, k ≤ xs.length ∧ i = .int .i64 k ∧ TakeRel K w0 B bl bd bs pv0 lv d bm w.heap.size (.slice ao xs.length cap) xs (takeSt q (M, ps) (M.take k)) wr) (fun i _ => xs.length - (intOf i).toNat)
    case atStart => exact ⟨0, Nat.zero_le _, rfl, pv, ev, unhide HTX4, unhide HROW, unhide HB4⟩
    case round =>
      obtain ⟨k, hk, rfl, hrel⟩ := hrel
      by_cases hlt : k < xs.length
      · obtain ⟨pvk, evk, txk, hrk, bk⟩ := hrel
        obtain ⟨x, hx⟩ : ∃ x, xs[k]? = some x := ⟨_, List.getElem?_eq_getElem hlt⟩
        have hMk : M[k]? = some x.1 := by rw [← hxs, List.getElem?_map, hx]; rfl
        obtain ⟨hoK, hlK, hpK⟩ := takeSt_ok q c (M.take k) (M, ps) hord hp fun p hp => hsl p (List.mem_of_mem_take hp)
        have hlK' : (takeSt q (M, ps) (M.take k)).1.length ≤ M.length := hlK
        have hpl := hpK.len
        have hsn := takeSt_snoc q (M, ps) (M.take k) x.1
        rw [show M.take k ++ [x.1] = M.take (k + 1) by rw [List.take_add_one, hMk]; rfl] at hsn
        obtain ⟨st, hst⟩ : ∃ st, st = takeSt q (M, ps) (M.take k) := ⟨_, rfl⟩
        rw [← hst] at txk hoK hlK' hpK hpl hsn
        clear hst hlK
        obtain ⟨g, cap', hv, d0, d1, d2, d3, d4, d5⟩ := row6_at hrk k x hx
        simp only [Value.slice.injEq, true_and] at hv
        obtain ⟨rfl, rfl⟩ := hv
        have i0 : (0 : Int) ≤ (k : Int) := Int.natCast_nonneg _
        have i1 : (k : Int) < (xs.length : Int) := by omega
        -- the box of what is looked at
        obtain ⟨W5, hW5⟩ : ∃ W5, W5 = wr.alloc (.cells #[.int .i64 (x.1.slot : Int), .string x.1.node.path, .int .i64 x.1.node.kind, .int .i64 x.1.node.mode, .int .i64 x.1.node.tag, .string x.1.node.data] 148) := ⟨_, rfl⟩
        have hb5 : Below wr.heap.size wr W5 := by rw [hW5]; exact (Below.refl _ wr).alloc (Nat.le_refl _) _
        have tx5 := txk.below hb5
        have hrow5 := row_below hrk hb5
        have bk5 : W5.heap[w.heap.size]? = some (.cells #[.pointer (some ⟨bl, 0, none⟩), .pointer (some ⟨bm, 0, none⟩)] 186 (0, 0)) := (hb5.block _ (lt_of_heap bk)).trans bk
        have bp5 : W5.heap[wr.heap.size]? = some (.cells #[.int .i64 (x.1.slot : Int), .string x.1.node.path, .int .i64 x.1.node.kind, .int .i64 x.1.node.mode, .int .i64 x.1.node.tag, .string x.1.node.data] 148 (0, 0)) := by rw [hW5]; exact heap_alloc_new wr _
        have k0 : (wr.alloc (.cells #[.int .i64 (x.1.slot : Int), .string x.1.node.path, .int .i64 x.1.node.kind, .int .i64 x.1.node.mode, .int .i64 x.1.node.tag, .string x.1.node.data] 148)).cell? ⟨w.heap.size, 1, none⟩ = some (.pointer (some ⟨bm, 0, none⟩)) := by rw [← hW5, cell_of_row W5 _ _ _ _ _ bk5]; rfl
        have hxz : x.1.slot < 60 := x.2
        have hib := IsBelow_any W5 x.1.node.path q hq
        have hdel := mdelete_any W5 w0.heap.size bm evk st.1 x.1.node.path tx5.map hoK (by omega)
        have HIB := hide hib
        have HDEL := hide hdel
        have HTX := hide tx5
        have HROW5 := hide hrow5
        have HBK := hide bk5
        have HBP := hide bp5
        have HSN := hide hsn
        have HPK := hide hpK
        clear hib hdel tx5 hrow5 bk5 bp5 hsn hpK txk hrk bk hMk hx
        have tail : hit q x.1 = true → ∀ w6 ev6, MAt w6 w0.heap.size bm ev6 (delM st.1 x.1.node.path) → DStep bm bm evk ev6 W5 w6 →
            (w6.cell? ⟨w.heap.size, 0, none⟩ = some (.pointer (some ⟨bl, 0, none⟩)) ∧ w6.cell? ⟨wr.heap.size, 0, none⟩ = some (.int .i64 (x.1.slot : Int))) ∧
            Calls Tryz.prog 189 #[.pointer (some ⟨bl, 0, none⟩), .int .i64 (x.1.slot : Int)] w6 fun e w7 => e = .returned (.int .i64 0) ∧ TakeRel K w0 B bl bd bs pv0 lv d bm w.heap.size (.slice (some ⟨g, 0, none⟩) xs.length cap) xs (takeSt q (M, ps) (M.take (k + 1))) w7 := by
          intro hh w6 ev6 hM6 st6
          have tx6 := (unhide HTX).turnMap hM6 st6
          have bk6 := ((unhide HTX).other st6 (unhide HBK) (by decide) (by decide)).trans (unhide HBK)
          have bp6 := ((unhide HTX).other st6 (unhide HBP) (by decide) (by decide)).trans (unhide HBP)
          refine ⟨⟨by rw [cell_of_row w6 _ _ _ _ _ bk6]; rfl, by rw [cell_of_row w6 _ _ _ _ _ bp6]; rfl⟩, ?_⟩
          have hrow6 : w6.ownsRow 0 148 6 (.slice (some ⟨g, 0, none⟩) xs.length cap) xs.length (rowP xs) := ownsRow_kept (unhide HROW5) fun g' hg' => by
            obtain ⟨c', hc'⟩ := row_blk (unhide HROW5) hg'
            exact (unhide HTX).other st6 hc' (by decide) (by decide)
          refine (clearSlot_any w6 bl bd bs pvk lv st.2 false d x.1.slot tx6.sys.log tx6.sys.disk hn (by omega) hxz).mono ?_
          rintro e w7 ⟨pv7, rfl, hl7, st7⟩
          have hq7 := putL_ok (n := d.safe.length) (ps := st.2) (a := 2 * x.1.slot) (s := ⟨#[]⟩) (by omega) (by decide) (by omega)
          rw [hq7] at hl7 ⊢
          refine ⟨rfl, pv7, ev6, ?_, ?_, ?_⟩
          · rw [unhide HSN, if_pos hh]
            exact tx6.turnLog (tx6.sys.ofLog hl7 st7).1 st7
          · exact ownsRow_kept hrow6 fun g' hg' => by
              obtain ⟨c', hc'⟩ := row_blk hrow6 hg'
              exact tx6.otherL st7 hc' (by decide) (by decide)
          · exact (tx6.otherL st7 bk6 (by decide) (by decide)).trans bk6
        have skip : hit q x.1 = false → TakeRel K w0 B bl bd bs pv0 lv d bm w.heap.size (.slice (some ⟨g, 0, none⟩) xs.length cap) xs (takeSt q (M, ps) (M.take (k + 1))) W5 := by
          intro hh
          refine ⟨pvk, evk, ?_, unhide HROW5, unhide HBK⟩
          rw [unhide HSN, if_neg (by simp [hh])]
          exact unhide HTX
        have HTAIL := hide tail
        have HSKIP := hide skip
        clear tail skip
        cases heq : x.1.node.path.toList == q.toList
        · cases hbl : belowB x.1.node.path q
          · have hh : hit q x.1 = false := by simp [hit, heq, hbl]
            have HBL := hide hbl
            have HH := hide hh
            clear hbl hh
            go_wp2_with fail
            rw [← hW5]
            refine (unhide HIB).mono ?_
            rintro e w6 ⟨rfl, hw6⟩
            rw [unhide HBL]
            go_wp2_with fail
            go_roundw
            case rel => exact ⟨k + 1, by omega, by go_num, by rw [← hW5]; exact (unhide HSKIP) (unhide HH)⟩
            case measure => simp [intOf]; omega
          · have hh : hit q x.1 = true := by simp [hit, hbl]
            have HBL := hide hbl
            have HH := hide hh
            clear hbl hh
            go_wp2_with fail
            rw [← hW5]
            refine (unhide HIB).mono ?_
            rintro e w6 ⟨rfl, hw6⟩
            rw [unhide HBL]
            rw [hW5] at hw6
            subst hw6
            go_wp2_with fail
            rw [← hW5]
            refine (unhide HDEL).mono ?_
            rintro e w6 ⟨ev6, rfl, hM6, st6⟩
            obtain ⟨⟨z0, z1⟩, hcl⟩ := (unhide HTAIL) (unhide HH) w6 ev6 hM6 st6
            have HCL := hide hcl
            clear hcl
            go_wp2_with fail
            refine (unhide HCL).mono ?_
            rintro e w7 ⟨rfl, hr7⟩
            go_wp2_with fail
            go_roundw
            case rel => exact ⟨k + 1, by omega, by go_num, hr7⟩
            case measure => simp [intOf]; omega
        · have hh : hit q x.1 = true := by simp [hit, heq]
          have HH := hide hh
          clear hh
          go_wp2_with fail
          rw [← hW5]
          refine (unhide HDEL).mono ?_
          rintro e w6 ⟨ev6, rfl, hM6, st6⟩
          obtain ⟨⟨z0, z1⟩, hcl⟩ := (unhide HTAIL) (unhide HH) w6 ev6 hM6 st6
          have HCL := hide hcl
          clear hcl
          go_wp2_with fail
          refine (unhide HCL).mono ?_
          rintro e w7 ⟨rfl, hr7⟩
          go_wp2_with fail
          go_roundw
          case rel => exact ⟨k + 1, by omega, by go_num, hr7⟩
          case measure => simp [intOf]; omega
      · have hke : k = xs.length := by omega
        subst hke
        obtain ⟨pvk, evk, txk, _, _⟩ := hrel
        rw [List.take_of_length_le (by omega)] at txk
        have HTXK := hide txk
        clear txk
        go_wp2_with fail
        go_ret
        exact .inr ⟨by rw [unhide HGM]; rfl, rfl, pvk, evk, unhide HTXK⟩
end Go.Proofs.YtcbindgpbeaebaaGreatDoor

namespace Go.Proofs.YtcbindgpbeaebaaGreatDoor
open Go.RowKit Go.Deep
attribute [local go_sem ↓] Go.wp_at_zero Go.wp_at_succ

/-- A deed. -/
structure Dd where
  take : Bool
  node : Nd
def ddC (x : Dd) : List Value := [.bool x.take, .string x.node.path, .int .i64 x.node.kind, .int .i64 x.node.mode, .int .i64 x.node.tag, .string x.node.data]
def ddV (x : Dd) : Value := .agg #[.bool x.take, .string x.node.path, .int .i64 x.node.kind, .int .i64 x.node.mode, .int .i64 x.node.tag, .string x.node.data]
/-- One deed is done, or refused. -/
def D1 (M : List Pl) (ps : List (Nat × ByteArray)) (x : Dd) (e : Int) (M' : List Pl) (ps' : List (Nat × ByteArray)) : Prop :=
  (x.take = true ∧ ((getM M x.node.path = none ∧ e = 4 ∧ M' = M ∧ ps' = ps) ∨ ((getM M x.node.path).isSome = true ∧ e = 0 ∧ M' = (takeSt x.node.path (M, ps) M).1 ∧ ps' = (takeSt x.node.path (M, ps) M).2))) ∨
  (x.take = false ∧ e = putErr M x.node ∧ ((putErr M x.node ≠ 0 ∧ M' = M ∧ ps' = ps) ∨ (putErr M x.node = 0 ∧ ∃ slot, SlotFor M x.node slot ∧ M' = insM M ⟨slot, x.node⟩ ∧ ps' = put2 ps slot (enc x.node))))
/-- What a deed must be. -/
structure Fit (x : Dd) : Prop where
  pz : x.node.path.size ≤ 60
  k : x.take = false → 0 ≤ x.node.kind ∧ x.node.kind < 256
  m : x.take = false → 0 ≤ x.node.mode ∧ x.node.mode < 512
  t : x.take = false → 0 ≤ x.node.tag ∧ x.node.tag < 256
  d : x.take = false → x.node.data.size ≤ 400
def DoPost (K : Kp) (w0 : World) (B bl bd bs : Nat) (pv0 lv : Value) (ps : List (Nat × ByteArray)) (d : Dk) (bm : Nat) (M : List Pl) (x : Dd) (e : Ending) (w' : World) : Prop :=
  ∃ (c : Int) (M' : List Pl) (ps' : List (Nat × ByteArray)) (pv' ev' : Value), e = .returned (.int .i64 c) ∧ D1 M ps x c M' ps' ∧ Tx K w0 w' B bl bd bs pv0 pv' lv ps' d bm ev' M'
/-- The map is as maps are. -/
structure MOk (M : List Pl) : Prop where
  ord : Ord M
  len : M.length ≤ 60
  slot : ∀ p ∈ M, p.slot < 60

set_option maxRecDepth 100000 in
set_option maxHeartbeats 3200000 in
theorem wdo_any {K : Kp} (w0 w : World) (B bl bd bs : Nat) (pv0 pv lv : Value) (ps : List (Nat × ByteArray)) (d : Dk) (bm : Nat) (ev : Value) (M : List Pl) (x : Dd) (c : Nat) (tx : Tx K w0 w B bl bd bs pv0 pv lv ps d bm ev M) (mo : MOk M)
    (hn : d.safe.length ≤ 4096) (hn3 : 300 ≤ d.safe.length) (hp : PsB c ps) (hc : c ≤ 12) (fit : Fit x) :
    Calls Tryz.prog 116 #[wkV bl bm, ddV x] w (DoPost K w0 B bl bd bs pv0 lv ps d bm M x) := by
  obtain ⟨tk, n⟩ := x
  obtain ⟨W, hW⟩ : ∃ W, W = (w.alloc (.cells #[.pointer (some ⟨bl, 0, none⟩), .pointer (some ⟨bm, 0, none⟩)] 186)).alloc (.cells #[.bool tk, .string n.path, .int .i64 n.kind, .int .i64 n.mode, .int .i64 n.tag, .string n.data] 79) := ⟨_, rfl⟩
  have hB0 : Below w.heap.size w W := by rw [hW]; exact ((Below.refl _ w).alloc (Nat.le_refl _) _).alloc (by simp) _
  have tx0 := tx.below hB0
  have hlen := hp.len
  have hpz := fit.pz
  unfold wkV ddV
  dsimp only at hpz ⊢
  cases tk
  · have hput := wput_any w0 W B bl bd bs pv0 pv lv ps d bm ev M n tx0 mo.ord mo.len mo.slot hn hn3 (by omega) (fit.k rfl) (fit.m rfl) (fit.t rfl) hpz (fit.d rfl)
    unfold wkV ndV at hput
    have HP := hide hput
    clear hput
    go_enter Tryz.func116, Tryz.ntmps116
    go_wp2_with fail
    rw [← hW]
    refine (unhide HP).mono ?_
    rintro e w1 ⟨rfl, hp1⟩
    go_wp2_with fail
    go_ret
    rcases hp1 with ⟨he, t1⟩ | ⟨he, slot, pv', ev', hs, t1⟩
    · exact ⟨_, M, ps, pv, ev, rfl, .inr ⟨rfl, rfl, .inl ⟨he, rfl, rfl⟩⟩, t1⟩
    · exact ⟨_, _, _, pv', ev', rfl, .inr ⟨rfl, rfl, .inr ⟨he, slot, hs, rfl, rfl⟩⟩, t1⟩
  · have htk := take_any w0 W B bl bd bs pv0 pv lv ps d bm ev M n.path c tx0 mo.ord mo.len mo.slot hn hn3 hp hc (by omega)
    unfold wkV at htk
    have HT := hide htk
    clear htk
    go_enter Tryz.func116, Tryz.ntmps116
    go_wp2_with fail
    rw [← hW]
    refine (unhide HT).mono ?_
    rintro e w1 (⟨hg, rfl, t1⟩ | ⟨hg, rfl, pv', ev', t1⟩)
    · go_wp2_with fail
      go_ret
      exact ⟨4, M, ps, pv, ev, rfl, .inl ⟨rfl, .inl ⟨hg, rfl, rfl, rfl⟩⟩, t1⟩
    · go_wp2_with fail
      go_ret
      exact ⟨0, _, _, pv', ev', rfl, .inl ⟨rfl, .inr ⟨hg, rfl, rfl, rfl⟩⟩, t1⟩

/-- Deeds, one behind the other, all done. -/
inductive Chain : List Pl → List (Nat × ByteArray) → List Dd → List Pl → List (Nat × ByteArray) → Prop
  | nil (M : List Pl) (ps : List (Nat × ByteArray)) : Chain M ps [] M ps
  | snoc {M ps l M1 ps1 x M2 ps2} (h : Chain M ps l M1 ps1) (k : D1 M1 ps1 x 0 M2 ps2) : Chain M ps (l ++ [x]) M2 ps2
theorem insM_len_some {M : List Pl} {x : Pl} (hord : Ord M) (h : (getM M x.node.path).isSome = true) : (insM M x).length = M.length := by
  induction M with
  | nil => simp [getM] at h
  | cons y r ih =>
    unfold insM
    split
    · next hlt =>
      have hy : (cmpB y.node.path x.node.path == 0) = false := by simp; omega
      have : getM (y :: r) x.node.path = getM r x.node.path := by simp [getM, hy]
      rw [this] at h
      simp [ih (List.pairwise_cons.1 hord).2 h]
    · next hge =>
      split
      · simp
      · next hne =>
        exfalso
        have hy : (cmpB y.node.path x.node.path == 0) = false := by simp; omega
        have h2 : getM (y :: r) x.node.path = getM r x.node.path := by simp [getM, hy]
        rw [h2] at h
        obtain ⟨p, hp⟩ := Option.isSome_iff_exists.1 h
        have hm := List.mem_of_find?_eq_some hp
        have h3 := (List.pairwise_cons.1 hord).1 p hm
        have h4 : cmpB p.node.path x.node.path = 0 := by have := List.find?_some hp; simpa using this
        rw [cmpB_zero h4] at h3
        omega
theorem takeSt_sub (q : ByteArray) : ∀ (xs : List Pl) (st : List Pl × List (Nat × ByteArray)), ∀ p ∈ (takeSt q st xs).1, p ∈ st.1
  | [], _, p, hp => hp
  | y :: r, st, p, hp => by
    have e : takeSt q st (y :: r) = takeSt q (if hit q y then (delM st.1 y.node.path, putP st.2 (2 * y.slot) ⟨#[]⟩) else st) r := rfl
    rw [e] at hp
    have := takeSt_sub q r _ p hp
    split at this
    · exact (List.mem_filter.1 this).1
    · exact this
theorem D1.ok {M : List Pl} {ps : List (Nat × ByteArray)} {x : Dd} {M' : List Pl} {ps' : List (Nat × ByteArray)} {c : Nat} (h : D1 M ps x 0 M' ps') (fit : Fit x) (mo : MOk M) (hp : PsB c ps) : MOk M' ∧ PsB (c + 1) ps' := by
  have up : ∀ {qs : List (Nat × ByteArray)}, PsB c qs → PsB (c + 1) qs := fun h => ⟨h.nd, h.lt, by have := h.odd; omega, h.sz⟩
  rcases h with ⟨_, ⟨_, h4, _⟩ | ⟨_, _, rfl, rfl⟩⟩ | ⟨htk, he, ⟨hne, _⟩ | ⟨_, slot, hs, rfl, rfl⟩⟩
  · cases h4
  · obtain ⟨h1, h2, h3⟩ := takeSt_ok x.node.path c M (M, ps) mo.ord hp mo.slot
    have hl := mo.len
    exact ⟨⟨h1, Nat.le_trans h2 hl, fun p hp => mo.slot p (takeSt_sub _ _ _ p hp)⟩, up h3⟩
  · exact absurd he.symm hne
  · refine ⟨⟨insM_ord _ _ mo.ord, ?_, fun p hp => ?_⟩, hp.put2 _ hs.1 _ (by rw [enc_size]; have := fit.pz; have := fit.d htk; omega)⟩
    · rcases hs.2 with ⟨old, h1, _⟩ | ⟨h1, _⟩
      · rw [insM_len_some (x := ⟨slot, x.node⟩) mo.ord (by show (getM M x.node.path).isSome = true; rw [h1]; rfl)]
        exact mo.len
      · have hl := insM_len M ⟨slot, x.node⟩
        by_cases h60 : 60 ≤ M.length
        · exfalso
          unfold putErr at he
          split at he
          · next hc => exact hc he.symm
          · rw [h1] at he
            exact absurd (show (0 : Int) = 8 from he) (by decide)
        · omega
    · rcases insM_mem _ _ _ hp with rfl | hp
      · exact hs.1
      · exact mo.slot p hp
end Go.Proofs.YtcbindgpbeaebaaGreatDoor

namespace Go.Proofs.YtcbindgpbeaebaaGreatDoor
open Go.RowKit Go.Deep
attribute [local go_sem ↓] Go.wp_at_zero Go.wp_at_succ

/-- Deeds that are handed in. -/
def DsAt (w : World) (v : Value) (L : List Dd) : Prop :=
  ∃ ao cap, v = .slice ao L.length cap ∧ (0 < L.length → ∃ b cur, ao = some ⟨b, 0, none⟩ ∧ w.heap[b]? = some (.cells cur 79 (0, 0)) ∧ ∀ i x, L[i]? = some x → ∀ j y, (ddC x)[j]? = some y → cur[i * 6 + j]? = some y)
theorem DsAt.kept {w w' : World} {v : Value} {L : List Dd} (h : DsAt w v L) (hk : ∀ (b : Nat) (cur : Array Value), w.heap[b]? = some (.cells cur 79 (0, 0)) → w'.heap[b]? = w.heap[b]?) : DsAt w' v L := by
  obtain ⟨ao, cap, hv, h⟩ := h
  refine ⟨ao, cap, hv, fun h0 => ?_⟩
  obtain ⟨b, cur, h1, h2, h3⟩ := h h0
  exact ⟨b, cur, h1, (hk b cur h2).trans h2, h3⟩
theorem DsAt.below {w w' : World} {v : Value} {L : List Dd} (h : DsAt w v L) (hb : Below w.heap.size w w') : DsAt w' v L := h.kept fun b _ hc => hb.block b (lt_of_heap hc)
theorem DsAt.at {w : World} {ao : Option Addr} {cap : Nat} {L : List Dd} (h : DsAt w (.slice ao L.length cap) L) (i : Nat) (x : Dd) (hi : L[i]? = some x) :
    ∃ b, ao = some ⟨b, 0, none⟩ ∧ w.cell? ⟨b, i * 6, none⟩ = some (.bool x.take) ∧ w.cell? ⟨b, i * 6 + 1, none⟩ = some (.string x.node.path) ∧ w.cell? ⟨b, i * 6 + 2, none⟩ = some (.int .i64 x.node.kind) ∧ w.cell? ⟨b, i * 6 + 3, none⟩ = some (.int .i64 x.node.mode) ∧ w.cell? ⟨b, i * 6 + 4, none⟩ = some (.int .i64 x.node.tag) ∧ w.cell? ⟨b, i * 6 + 5, none⟩ = some (.string x.node.data) := by
  obtain ⟨ao', cap', hv, h⟩ := h
  have hl := (List.getElem?_eq_some_iff.1 hi).1
  obtain ⟨b, cur, h1, h2, h3⟩ := h (by omega)
  simp only [Value.slice.injEq, true_and] at hv
  obtain ⟨rfl, rfl⟩ := hv
  have hj : ∀ j y, (ddC x)[j]? = some y → w.cell? ⟨b, i * 6 + j, none⟩ = some y := fun j y hy => by
    rw [cell_of_row w b _ _ _ _ h2]; exact h3 i x hi j y hy
  exact ⟨b, h1, hj 0 _ rfl, hj 1 _ rfl, hj 2 _ rfl, hj 3 _ rfl, hj 4 _ rfl, hj 5 _ rfl⟩
theorem DsAt.form {w : World} {v : Value} {L : List Dd} (h : DsAt w v L) : ∃ ao cap, v = .slice ao L.length cap := by
  obtain ⟨ao, cap, hv, _⟩ := h
  exact ⟨ao, cap, hv⟩

/-- May Do be asked for this? -/
def okDeed (x : Dd) : Bool := okPath x.node.path && (x.take || okNode x.node)
def okDeeds (L : List Dd) : Bool := decide (L.length ≤ 12) && L.all okDeed

set_option maxRecDepth 100000 in
set_option maxHeartbeats 3200000 in
theorem areDeeds_any (w : World) (v : Value) (L : List Dd) (h : DsAt w v L) (hz : ∀ x ∈ L, x.node.path.size ≤ 4611686018427387904) (hL : L.length ≤ 4611686018427387904) :
    Calls Tryz.prog 74 #[v] w fun e w' => e = .returned (.bool (okDeeds L)) ∧ Below w.heap.size w w' := by
  obtain ⟨ao, cap, rfl⟩ := h.form
  by_cases h12 : 12 < L.length
  · have HO := hide (show okDeeds L = false by unfold okDeeds; rw [decide_eq_false (by omega)]; rfl)
    have h12' : (12 : Int) < (L.length : Int) := by omega
    go_enter Tryz.func74, Tryz.ntmps74
    go_wp2_with fail
    go_ret
    exact ⟨by rw [unhide HO]; rfl, Below.refl _ _⟩
  · have HO := hide (show okDeeds L = L.all okDeed by unfold okDeeds; rw [decide_eq_true (by omega)]; rfl)
    have h12' : ¬ ((12 : Int) < (L.length : Int)) := by omega
    go_enter Tryz.func74, Tryz.ntmps74
    go_wp2_with fail
    go_loopw [10] (fun i wr => ∃ k : Nat, k ≤ L.length ∧ i = .int .i64 k ∧ (L.take k).all okDeed = true ∧ Below w.heap.size w wr) (fun i _ => L.length - (intOf i).toNat)
    case atStart => exact ⟨0, Nat.zero_le _, rfl, by simp, Below.refl _ _⟩
    case round =>
      obtain ⟨k, hk, rfl, hall, hb⟩ := hrel
      by_cases hlt : k < L.length
      · obtain ⟨x, hx⟩ : ∃ x, L[k]? = some x := ⟨_, List.getElem?_eq_getElem hlt⟩
        obtain ⟨b, rfl, d0, d1, d2, d3, d4, d5⟩ := (h.below hb).at k x hx
        have hxz := hz x (List.mem_of_getElem? hx)
        have i0 : (0 : Int) ≤ (k : Int) := Int.natCast_nonneg _
        have i1 : (k : Int) < (L.length : Int) := by omega
        obtain ⟨tk, n⟩ := x
        dsimp only at d0 d1 d2 d3 d4 d5 hxz
        obtain ⟨W, hW⟩ : ∃ W, W = wr.alloc (.cells #[.bool tk, .string n.path, .int .i64 n.kind, .int .i64 n.mode, .int .i64 n.tag, .string n.data] 79) := ⟨_, rfl⟩
        have hBW : Below wr.heap.size wr W := by rw [hW]; exact (Below.refl _ wr).alloc (Nat.le_refl _) _
        have bW : W.heap[wr.heap.size]? = some (.cells #[.bool tk, .string n.path, .int .i64 n.kind, .int .i64 n.mode, .int .i64 n.tag, .string n.data] 79 (0, 0)) := by rw [hW]; exact heap_alloc_new wr _
        have hv := Valid_any W n.path hxz
        have HV := hide hv
        have HX := hide hx
        have HALL := hide hall
        have HB := hide hb
        clear hv hx hall hb
        have hend : (okDeed ⟨tk, n⟩ = false) → L.all okDeed = false := fun h => by
          rw [List.all_eq_false]
          exact ⟨_, List.mem_of_getElem? (unhide HX), by rw [h]; decide⟩
        have hnext : (okDeed ⟨tk, n⟩ = true) → (L.take (k + 1)).all okDeed = true := fun h => by
          rw [List.take_add_one, unhide HX, List.all_append, unhide HALL]
          simp [h]
        have HEND := hide hend
        have HNEXT := hide hnext
        clear hend hnext
        cases hok : okPath n.path
        · have HOK := hide hok
          have hod : okDeed ⟨tk, n⟩ = false := by simp [okDeed, hok]
          have HOD := hide hod
          clear hok hod
          go_wp2_with fail
          rw [← hW]
          refine (unhide HV).mono ?_
          rintro e w1 ⟨rfl, o, hw1⟩
          rw [unhide HOK]
          go_wp2_with fail
          go_ret
          refine ⟨by rw [unhide HO, (unhide HEND) (unhide HOD)]; rfl, ?_⟩
          rw [← hW]
          have := (unhide HB).trans (hBW.mono (unhide HB).size)
          exact this.alloc this.size _
        · have HOK := hide hok
          have hod : okDeed ⟨tk, n⟩ = (tk || okNode n) := by simp [okDeed, hok]
          have HOD := hide hod
          clear hok hod
          have hB1 := (unhide HB).trans (hBW.mono (unhide HB).size)
          have bA : ∀ o, (W.alloc o).heap[wr.heap.size]? = some (.cells #[.bool tk, .string n.path, .int .i64 n.kind, .int .i64 n.mode, .int .i64 n.tag, .string n.data] 79 (0, 0)) := fun o => (Below.heap_alloc W o _ (lt_of_heap bW)).trans bW
          cases tk
          · have hI := fun w => isNode_any w n hxz
            unfold ndV at hI
            have HI := hide hI
            clear hI
            cases hok : okNode n
            · have HON := hide hok
              have HF := hide (show okDeed ⟨false, n⟩ = false by rw [unhide HOD, hok]; rfl)
              clear hok
              go_wp2_with fail
              rw [← hW]
              refine (unhide HV).mono ?_
              rintro e w1 ⟨rfl, o, hw1⟩
              rw [unhide HOK]
              have c0 : w1.cell? ⟨wr.heap.size, 0, none⟩ = some (.bool false) := by rw [hw1, cell_of_row _ _ _ _ _ _ (bA o)]; rfl
              have c1 : w1.cell? ⟨wr.heap.size, 1, none⟩ = some (.string n.path) := by rw [hw1, cell_of_row _ _ _ _ _ _ (bA o)]; rfl
              have c2 : w1.cell? ⟨wr.heap.size, 2, none⟩ = some (.int .i64 n.kind) := by rw [hw1, cell_of_row _ _ _ _ _ _ (bA o)]; rfl
              have c3 : w1.cell? ⟨wr.heap.size, 3, none⟩ = some (.int .i64 n.mode) := by rw [hw1, cell_of_row _ _ _ _ _ _ (bA o)]; rfl
              have c4 : w1.cell? ⟨wr.heap.size, 4, none⟩ = some (.int .i64 n.tag) := by rw [hw1, cell_of_row _ _ _ _ _ _ (bA o)]; rfl
              have c5 : w1.cell? ⟨wr.heap.size, 5, none⟩ = some (.string n.data) := by rw [hw1, cell_of_row _ _ _ _ _ _ (bA o)]; rfl
              have hB2 : Below w.heap.size w w1 := by rw [hw1]; exact hB1.alloc hB1.size _
              clear hw1
              go_wp2_with fail
              refine ((unhide HI) w1).mono ?_
              rintro e w2 ⟨rfl, hb2⟩
              rw [unhide HON]
              go_wp2_with fail
              go_ret
              exact ⟨by rw [unhide HO, (unhide HEND) (unhide HF)]; rfl, hB2.trans (hb2.mono hB2.size)⟩
            · have HON := hide hok
              have HF := hide (show okDeed ⟨false, n⟩ = true by rw [unhide HOD, hok]; rfl)
              clear hok
              go_wp2_with fail
              rw [← hW]
              refine (unhide HV).mono ?_
              rintro e w1 ⟨rfl, o, hw1⟩
              rw [unhide HOK]
              have c0 : w1.cell? ⟨wr.heap.size, 0, none⟩ = some (.bool false) := by rw [hw1, cell_of_row _ _ _ _ _ _ (bA o)]; rfl
              have c1 : w1.cell? ⟨wr.heap.size, 1, none⟩ = some (.string n.path) := by rw [hw1, cell_of_row _ _ _ _ _ _ (bA o)]; rfl
              have c2 : w1.cell? ⟨wr.heap.size, 2, none⟩ = some (.int .i64 n.kind) := by rw [hw1, cell_of_row _ _ _ _ _ _ (bA o)]; rfl
              have c3 : w1.cell? ⟨wr.heap.size, 3, none⟩ = some (.int .i64 n.mode) := by rw [hw1, cell_of_row _ _ _ _ _ _ (bA o)]; rfl
              have c4 : w1.cell? ⟨wr.heap.size, 4, none⟩ = some (.int .i64 n.tag) := by rw [hw1, cell_of_row _ _ _ _ _ _ (bA o)]; rfl
              have c5 : w1.cell? ⟨wr.heap.size, 5, none⟩ = some (.string n.data) := by rw [hw1, cell_of_row _ _ _ _ _ _ (bA o)]; rfl
              have hB2 : Below w.heap.size w w1 := by rw [hw1]; exact hB1.alloc hB1.size _
              clear hw1
              go_wp2_with fail
              refine ((unhide HI) w1).mono ?_
              rintro e w2 ⟨rfl, hb2⟩
              rw [unhide HON]
              go_wp2_with fail
              go_roundw
              case rel => exact ⟨k + 1, by omega, by go_num, (unhide HNEXT) (unhide HF), hB2.trans (hb2.mono hB2.size)⟩
              case measure => simp [intOf]; omega
          · have HF := hide (show okDeed ⟨true, n⟩ = true by rw [unhide HOD]; rfl)
            go_wp2_with fail
            rw [← hW]
            refine (unhide HV).mono ?_
            rintro e w1 ⟨rfl, o, hw1⟩
            rw [unhide HOK]
            have c0 : w1.cell? ⟨wr.heap.size, 0, none⟩ = some (.bool true) := by rw [hw1, cell_of_row _ _ _ _ _ _ (bA o)]; rfl
            have hB2 : Below w.heap.size w w1 := by rw [hw1]; exact hB1.alloc hB1.size _
            clear hw1
            go_wp2_with fail
            go_roundw
            case rel => exact ⟨k + 1, by omega, by go_num, (unhide HNEXT) (unhide HF), hB2⟩
            case measure => simp [intOf]; omega
      · have HE := hide (show L.all okDeed = true by rw [List.take_of_length_le (by omega)] at hall; exact hall)
        go_wp2_with fail
        go_ret
        exact ⟨by rw [unhide HO, unhide HE]; rfl, hb⟩
end Go.Proofs.YtcbindgpbeaebaaGreatDoor
