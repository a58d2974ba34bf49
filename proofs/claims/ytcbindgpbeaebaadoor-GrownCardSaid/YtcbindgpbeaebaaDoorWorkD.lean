import Derived.Test.YtcbindgpbeaebaaDoorWorkC
namespace Go.Proofs.YtcbindgpbeaebaaDoor
open Go.RowKit Go.Deep
attribute [local go_sem ↓] Go.wp_at_zero Go.wp_at_succ

/-- A deed. -/
structure Dd where
  take : Bool
  node : Nd
def ddC (x : Dd) : List Value := [.bool x.take, .string x.node.path, .int .i64 x.node.kind, .int .i64 x.node.mode, .int .i64 x.node.tag, .string x.node.data]
def ddV (x : Dd) : Value := .agg #[.bool x.take, .string x.node.path, .int .i64 x.node.kind, .int .i64 x.node.mode, .int .i64 x.node.tag, .string x.node.data]
/-- One deed is done, or refused. -/
def D1 (M : List Pl) (ps : List (Nat × ByteArray)) (x : Dd) (e : Int) (M' : List Pl) (ps' : List (Nat × ByteArray)) : Prop :=
  (x.take = true ∧ ((getM M x.node.path = none ∧ e = 4 ∧ M' = M ∧ ps' = ps) ∨ ((getM M x.node.path).isSome = true ∧ e = 0 ∧ M' = (takeSt x.node.path (M, ps) M).1 ∧ ps' = (takeSt x.node.path (M, ps) M).2))) ∨
  (x.take = false ∧ e = putErr M x.node ∧ ((putErr M x.node ≠ 0 ∧ M' = M ∧ ps' = ps) ∨ (putErr M x.node = 0 ∧ ∃ slot, SlotFor M x.node slot ∧ M' = insM M ⟨slot, x.node⟩ ∧ ps' = put2 ps slot (enc x.node))))
/-- What a deed must be. -/
structure Fit (x : Dd) : Prop where
  pz : x.node.path.size ≤ 60
  k : x.take = false → 0 ≤ x.node.kind ∧ x.node.kind < 256
  m : x.take = false → 0 ≤ x.node.mode ∧ x.node.mode < 512
  t : x.take = false → 0 ≤ x.node.tag ∧ x.node.tag < 256
  d : x.take = false → x.node.data.size ≤ 400
def DoPost (K : Kp) (w0 : World) (B bl bd bs : Nat) (pv0 lv : Value) (ps : List (Nat × ByteArray)) (d : Dk) (bm : Nat) (M : List Pl) (x : Dd) (e : Ending) (w' : World) : Prop :=
  ∃ (c : Int) (M' : List Pl) (ps' : List (Nat × ByteArray)) (pv' ev' : Value), e = .returned (.int .i64 c) ∧ D1 M ps x c M' ps' ∧ Tx K w0 w' B bl bd bs pv0 pv' lv ps' d bm ev' M'
/-- The map is as maps are. -/
structure MOk (M : List Pl) : Prop where
  ord : Ord M
  len : M.length ≤ 60
  slot : ∀ p ∈ M, p.slot < 60

set_option maxRecDepth 100000 in
set_option maxHeartbeats 3200000 in
theorem wdo_any {K : Kp} (w0 w : World) (B bl bd bs : Nat) (pv0 pv lv : Value) (ps : List (Nat × ByteArray)) (d : Dk) (bm : Nat) (ev : Value) (M : List Pl) (x : Dd) (c : Nat) (tx : Tx K w0 w B bl bd bs pv0 pv lv ps d bm ev M) (mo : MOk M)
    (hn : d.safe.length ≤ 4096) (hn3 : 300 ≤ d.safe.length) (hp : PsB c ps) (hc : c ≤ 12) (fit : Fit x) :
    Calls Tryd.prog 56 #[wkV bl bm, ddV x] w (DoPost K w0 B bl bd bs pv0 lv ps d bm M x) := by
  obtain ⟨tk, n⟩ := x
  obtain ⟨W, hW⟩ : ∃ W, W = (w.alloc (.cells #[.pointer (some ⟨bl, 0, none⟩), .pointer (some ⟨bm, 0, none⟩)] 116)).alloc (.cells #[.bool tk, .string n.path, .int .i64 n.kind, .int .i64 n.mode, .int .i64 n.tag, .string n.data] 47) := ⟨_, rfl⟩
  have hB0 : Below w.heap.size w W := by rw [hW]; exact ((Below.refl _ w).alloc (Nat.le_refl _) _).alloc (by simp) _
  have tx0 := tx.below hB0
  have hlen := hp.len
  have hpz := fit.pz
  unfold wkV ddV
  dsimp only at hpz ⊢
  cases tk
  · have hput := wput_any w0 W B bl bd bs pv0 pv lv ps d bm ev M n tx0 mo.ord mo.len mo.slot hn hn3 (by omega) (fit.k rfl) (fit.m rfl) (fit.t rfl) hpz (fit.d rfl)
    unfold wkV ndV at hput
    have HP := hide hput
    clear hput
    go_enter Tryd.func56, Tryd.ntmps56
    go_wp2_with fail
    rw [← hW]
    refine (unhide HP).mono ?_
    rintro e w1 ⟨rfl, hp1⟩
    go_wp2_with fail
    go_ret
    rcases hp1 with ⟨he, t1⟩ | ⟨he, slot, pv', ev', hs, t1⟩
    · exact ⟨_, M, ps, pv, ev, rfl, .inr ⟨rfl, rfl, .inl ⟨he, rfl, rfl⟩⟩, t1⟩
    · exact ⟨_, _, _, pv', ev', rfl, .inr ⟨rfl, rfl, .inr ⟨he, slot, hs, rfl, rfl⟩⟩, t1⟩
  · have htk := take_any w0 W B bl bd bs pv0 pv lv ps d bm ev M n.path c tx0 mo.ord mo.len mo.slot hn hn3 hp hc (by omega)
    unfold wkV at htk
    have HT := hide htk
    clear htk
    go_enter Tryd.func56, Tryd.ntmps56
    go_wp2_with fail
    rw [← hW]
    refine (unhide HT).mono ?_
    rintro e w1 (⟨hg, rfl, t1⟩ | ⟨hg, rfl, pv', ev', t1⟩)
    · go_wp2_with fail
      go_ret
      exact ⟨4, M, ps, pv, ev, rfl, .inl ⟨rfl, .inl ⟨hg, rfl, rfl, rfl⟩⟩, t1⟩
    · go_wp2_with fail
      go_ret
      exact ⟨0, _, _, pv', ev', rfl, .inl ⟨rfl, .inr ⟨hg, rfl, rfl, rfl⟩⟩, t1⟩

/-- Deeds, one behind the other, all done. -/
inductive Chain : List Pl → List (Nat × ByteArray) → List Dd → List Pl → List (Nat × ByteArray) → Prop
  | nil (M : List Pl) (ps : List (Nat × ByteArray)) : Chain M ps [] M ps
  | snoc {M ps l M1 ps1 x M2 ps2} (h : Chain M ps l M1 ps1) (k : D1 M1 ps1 x 0 M2 ps2) : Chain M ps (l ++ [x]) M2 ps2
theorem insM_len_some {M : List Pl} {x : Pl} (hord : Ord M) (h : (getM M x.node.path).isSome = true) : (insM M x).length = M.length := by
  induction M with
  | nil => simp [getM] at h
  | cons y r ih =>
    unfold insM
    split
    · next hlt =>
      have hy : (cmpB y.node.path x.node.path == 0) = false := by simp; omega
      have : getM (y :: r) x.node.path = getM r x.node.path := by simp [getM, hy]
      rw [this] at h
      simp [ih (List.pairwise_cons.1 hord).2 h]
    · next hge =>
      split
      · simp
      · next hne =>
        exfalso
        have hy : (cmpB y.node.path x.node.path == 0) = false := by simp; omega
        have h2 : getM (y :: r) x.node.path = getM r x.node.path := by simp [getM, hy]
        rw [h2] at h
        obtain ⟨p, hp⟩ := Option.isSome_iff_exists.1 h
        have hm := List.mem_of_find?_eq_some hp
        have h3 := (List.pairwise_cons.1 hord).1 p hm
        have h4 : cmpB p.node.path x.node.path = 0 := by have := List.find?_some hp; simpa using this
        rw [cmpB_zero h4] at h3
        omega
theorem takeSt_sub (q : ByteArray) : ∀ (xs : List Pl) (st : List Pl × List (Nat × ByteArray)), ∀ p ∈ (takeSt q st xs).1, p ∈ st.1
  | [], _, p, hp => hp
  | y :: r, st, p, hp => by
    have e : takeSt q st (y :: r) = takeSt q (if hit q y then (delM st.1 y.node.path, putP st.2 (2 * y.slot) ⟨#[]⟩) else st) r := rfl
    rw [e] at hp
    have := takeSt_sub q r _ p hp
    split at this
    · exact (List.mem_filter.1 this).1
    · exact this
theorem D1.ok {M : List Pl} {ps : List (Nat × ByteArray)} {x : Dd} {M' : List Pl} {ps' : List (Nat × ByteArray)} {c : Nat} (h : D1 M ps x 0 M' ps') (fit : Fit x) (mo : MOk M) (hp : PsB c ps) : MOk M' ∧ PsB (c + 1) ps' := by
  have up : ∀ {qs : List (Nat × ByteArray)}, PsB c qs → PsB (c + 1) qs := fun h => ⟨h.nd, h.lt, by have := h.odd; omega, h.sz⟩
  rcases h with ⟨_, ⟨_, h4, _⟩ | ⟨_, _, rfl, rfl⟩⟩ | ⟨htk, he, ⟨hne, _⟩ | ⟨_, slot, hs, rfl, rfl⟩⟩
  · cases h4
  · obtain ⟨h1, h2, h3⟩ := takeSt_ok x.node.path c M (M, ps) mo.ord hp mo.slot
    have hl := mo.len
    exact ⟨⟨h1, Nat.le_trans h2 hl, fun p hp => mo.slot p (takeSt_sub _ _ _ p hp)⟩, up h3⟩
  · exact absurd he.symm hne
  · refine ⟨⟨insM_ord _ _ mo.ord, ?_, fun p hp => ?_⟩, hp.put2 _ hs.1 _ (by rw [enc_size]; have := fit.pz; have := fit.d htk; omega)⟩
    · rcases hs.2 with ⟨old, h1, _⟩ | ⟨h1, _⟩
      · rw [insM_len_some (x := ⟨slot, x.node⟩) mo.ord (by show (getM M x.node.path).isSome = true; rw [h1]; rfl)]
        exact mo.len
      · have hl := insM_len M ⟨slot, x.node⟩
        by_cases h60 : 60 ≤ M.length
        · exfalso
          unfold putErr at he
          split at he
          · next hc => exact hc he.symm
          · rw [h1] at he
            exact absurd (show (0 : Int) = 8 from he) (by decide)
        · omega
    · rcases insM_mem _ _ _ hp with rfl | hp
      · exact hs.1
      · exact mo.slot p hp
end Go.Proofs.YtcbindgpbeaebaaDoor
