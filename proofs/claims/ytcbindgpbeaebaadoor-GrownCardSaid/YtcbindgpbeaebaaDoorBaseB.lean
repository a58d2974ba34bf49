import Derived.Test.YtcbindgpbeaebaaDoorBaseA
namespace Go.Proofs.YtcbindgpbeaebaaDoor
open Go.RowKit Go.Deep
attribute [local go_sem ↓] Go.wp_at_zero Go.wp_at_succ

theorem Chain.ok {M : List Pl} {ps : List (Nat × ByteArray)} {l : List Dd} {M' : List Pl} {ps' : List (Nat × ByteArray)} {c : Nat} (h : Chain M ps l M' ps') (fit : ∀ x ∈ l, Fit x) (mo : MOk M) (hp : PsB c ps) : MOk M' ∧ PsB (c + l.length) ps' := by
  induction h with
  | nil => exact ⟨mo, by simpa using hp⟩
  | snoc h k ih =>
    obtain ⟨m1, p1⟩ := ih fun x hx => fit x (by simp [hx])
    obtain ⟨m2, p2⟩ := k.ok (fit _ (by simp)) m1 p1
    refine ⟨m2, ?_⟩
    rw [List.length_append]
    exact p2
theorem SStep.after {bl bd bs : Nat} {pv pvk lv lv' : Value} {w wk w' : World} (st : DStep bl bl pv pvk w wk) (h : SStep bl bd bs pvk lv lv' wk w') : SStep bl bd bs pv lv lv' w w' := by
  have hs := st.size
  refine ⟨Nat.le_trans hs h.size, fun k hk h1 h2 h3 h4 h5 => ?_, fun g hg => ?_⟩
  · rw [h.block k (by omega) h1 h2 h3 (fun e => ?_) h5, st.block k hk h1 h1 h4]
    rcases st.fresh k e with e | e
    · exact h4 e
    · omega
  · rcases h.fresh g hg with e | e
    · exact .inl e
    · exact .inr (by omega)

/-- The blocks of a sure disk, as a base reads them. -/
def vw (d : Dk) (i : Nat) : ByteArray := rd d.safe (90 + i)
theorem getL_vw {d : Dk} (hn3 : 300 ≤ d.safe.length) (hl : d.late = []) (hf : d.life ≠ 0) (hz : ∀ i, i < 120 → (vw d i).size = 256) : ∀ i, i < 120 → getL d [] false ((i : Nat) : Int) = (vw d i, 0) ∧ (vw d i).size = 256 := fun i hi => by
  refine ⟨?_, hz i hi⟩
  have h1 : hasB d.safe.length (i : Int) = true := by simp [hasB]; omega
  unfold getL
  rw [h1, if_neg (by simp), if_neg (by simp [hf])]
  have h2 : ¬ (0 ≤ idx [] (i : Int)) := by simp [idx]
  rw [if_neg h2, Int.toNat_natCast, read_rd hl]
  rfl

/-- How a transaction of a base on a sound disk ends. -/
def TrPost (w : World) (B bl bd bs : Nat) (pv lv : Value) (d : Dk) (M0 : List Pl) (L : List Dd) (e : Ending) (w' : World) : Prop :=
  (∃ k x c M1 ps1 M2 ps2, Chain M0 [] (L.take k) M1 ps1 ∧ L[k]? = some x ∧ D1 M1 ps1 x c M2 ps2 ∧ c ≠ 0 ∧ e = .returned (.int .i64 c) ∧ Sys w' B bl bd bs (.slice none 0 0) lv [] false d ∧ SStep bl bd bs pv lv lv w w' ∧ Below B w w') ∨
  (∃ M1 ps1 lv', Chain M0 [] L M1 ps1 ∧ e = .returned (.int .i64 (commitL d ps1 false).1) ∧ Sys w' B bl bd bs (.slice none 0 0) lv' [] (commitL d ps1 false).2.2 (commitL d ps1 false).2.1 ∧ SStep bl bd bs pv lv lv' w w' ∧ Below B w w')

/-- What stands between two deeds. -/
def TrRel (K : Kp) (w0 : World) (B bl bd bs : Nat) (pv lv : Value) (d : Dk) (bm : Nat) (L : List Dd) (M0 : List Pl) (k : Nat) (wr : World) : Prop :=
  ∃ Mk psk pvk evk, Chain M0 [] (L.take k) Mk psk ∧ Tx K w0 wr B bl bd bs pv pvk lv psk d bm evk Mk
theorem DsAt.step {w wr : World} {B bl bd bs : Nat} {pv pvk lv v : Value} {ps : List (Nat × ByteArray)} {br : Bool} {d : Dk} {L : List Dd} (h : DsAt w v L) (s : Sys w B bl bd bs pv lv ps br d) (st : DStep bl bl pv pvk w wr) : DsAt wr v L :=
  h.kept fun b _ hc => st.block b (lt_of_heap hc) (ty_ne hc s.log.own (by decide)) (ty_ne hc s.log.own (by decide)) (row_ty s.log.puts hc (by decide))
theorem BAt.step {w wr : World} {B bb bl bd bs : Nat} {pv pvk lv : Value} {ps : List (Nat × ByteArray)} {br bk : Bool} {d : Dk} (h : BAt w bb bl bk) (s : Sys w B bl bd bs pv lv ps br d) (st : DStep bl bl pv pvk w wr) : BAt wr bb bl bk :=
  h.kept (st.block bb h.lt (ty_ne h.own s.log.own (by decide)) (ty_ne h.own s.log.own (by decide)) (row_ty s.log.puts h.own (by decide)))

theorem tx_base {K : Kp} {w0 w : World} {B bl bd bs : Nat} {pv0 pv lv : Value} {ps : List (Nat × ByteArray)} {d : Dk} {bm : Nat} {ev : Value} {M : List Pl} (h : Tx K w0 w B bl bd bs pv0 pv lv ps d bm ev M) (s0 : Sys w0 B bl bd bs pv0 lv [] false d) : Below B w0 w :=
  DStep.below h.st s0.sep.bl0 s0.sep.bl0 s0.sep.bp0 s0.base

set_option maxRecDepth 100000 in
set_option maxHeartbeats 6400000 in
theorem transact_ok (w : World) (B bb bl bd bs : Nat) (pv lv : Value) (d : Dk) (v : Value) (L : List Dd) (hB : BAt w bb bl false) (s : Sys w B bl bd bs pv lv [] false d) (ok : d.Ok) (hn3 : 300 ≤ d.safe.length) (hl : d.late = []) (hf : d.life ≠ 0) (hz : ∀ i, i < 120 → (vw d i).size = 256)
    (hD : DsAt w v L) (h12 : L.length ≤ 12) (hfit : ∀ x ∈ L, Fit x) :
    Calls Tryd.prog 33 #[.pointer (some ⟨bb, 0, none⟩), v] w (TrPost w B bl bd bs pv lv d (loadM (vw d) 60) L) := by
  have hn := ok.n
  have hV := getL_vw hn3 hl hf hz
  have hload := load_ok w bb bl bd bs pv lv [] false d (vw d) hB s.log s.disk hn (by rw [hl]; simp) (by simp) hV
  have mo0 : MOk (loadM (vw d) 60) := ⟨loadM_ord _ _, loadM_len _ _, loadM_slot _ _⟩
  obtain ⟨M0, hM0⟩ : ∃ M0, M0 = loadM (vw d) 60 := ⟨_, rfl⟩
  rw [← hM0] at hload mo0 ⊢
  clear hM0 hV
  have HL := hide hload
  clear hload
  obtain ⟨ao, cap, rfl⟩ := hD.form
  go_enter_defers Tryd.func33, Tryd.ntmps33
  go_wp2_with fail
  refine (unhide HL).mono ?_
  rintro e w1 ⟨bm, ev, rfl, hM1, hb1⟩
  have s1 : Sys w1 B bl bd bs pv lv [] false d := sys_kept s hb1.size fun k hk _ => hb1.block k hk
  have hB1 := hB.kept (hb1.block bb hB.lt)
  have c0 := hB1.c0
  obtain ⟨W, hW⟩ : ∃ W, W = w1.alloc (.cells #[.pointer (some ⟨bl, 0, none⟩), .pointer (some ⟨bm, 0, none⟩)] 116) := ⟨_, rfl⟩
  have hbW : Below w1.heap.size w1 W := by rw [hW]; exact (Below.refl _ w1).alloc (Nat.le_refl _) _
  have bW : W.heap[w1.heap.size]? = some (.cells #[.pointer (some ⟨bl, 0, none⟩), .pointer (some ⟨bm, 0, none⟩)] 116 (0, 0)) := by rw [hW]; exact heap_alloc_new w1 _
  obtain ⟨K, hK⟩ : ∃ K : Kp, K = [(w1.heap.size, #[.pointer (some ⟨bl, 0, none⟩), .pointer (some ⟨bm, 0, none⟩)], 116)] := ⟨_, rfl⟩
  have txW : Tx K w W B bl bd bs pv pv lv [] d bm ev M0 := by
    refine ⟨sys_kept s1 hbW.size fun k hk _ => hbW.block k hk, hM1.below hbW, (DStep.ofBelow hb1).trans (DStep.ofBelow hbW), fun x hx => ?_⟩
    rw [hK] at hx
    simp only [List.mem_singleton] at hx
    subst hx
    exact ⟨bW, by show 116 ≠ 127; decide, by show 116 ≠ 124; decide, by show 116 ≠ 113; decide, by show 116 ≠ 159; decide⟩
  have rel0 : TrRel K w B bl bd bs pv lv d bm L M0 0 W := ⟨M0, [], pv, ev, Chain.nil _ _, txW⟩
  have HR0 := hide rel0
  have HK := hide hK
  clear rel0 txW hM1 hb1 s1 hK bW
  go_wp2_with fail
  rw [← hW]
  go_loopw [31] (fun i wr => ∃ k : Nat, k ≤ L.length ∧ i = .int .i64 k ∧ TrRel K w B bl bd bs pv lv d bm L M0 k wr) (fun i _ => L.length - (intOf i).toNat)
  case atStart => exact ⟨0, Nat.zero_le _, rfl, unhide HR0⟩
  case round =>
    obtain ⟨k, hk, rfl, Mk, psk, pvk, evk, ch, txk⟩ := hrel
    obtain ⟨mok, pbk⟩ := ch.ok (fun x hx => hfit x (List.mem_of_mem_take hx)) mo0 (PsB.nil 0)
    rw [List.length_take, Nat.min_eq_left hk, Nat.zero_add] at pbk
    have dsk := hD.step s txk.st
    have bak := hB.step s txk.st
    have wb := (txk.keep (w1.heap.size, #[.pointer (some ⟨bl, 0, none⟩), .pointer (some ⟨bm, 0, none⟩)], 116) (by rw [unhide HK]; simp)).1
    dsimp only at wb
    by_cases hlt : k < L.length
    · obtain ⟨x, hx⟩ : ∃ x, L[k]? = some x := ⟨_, List.getElem?_eq_getElem hlt⟩
      obtain ⟨b, rfl, d0, d1, d2, d3, d4, d5⟩ := dsk.at k x hx
      have i0 : (0 : Int) ≤ (k : Int) := Int.natCast_nonneg _
      have i1 : (k : Int) < (L.length : Int) := by omega
      have hfx := hfit x (List.mem_of_getElem? hx)
      obtain ⟨W5, hW5⟩ : ∃ W5, W5 = wr.alloc (.cells #[.bool x.take, .string x.node.path, .int .i64 x.node.kind, .int .i64 x.node.mode, .int .i64 x.node.tag, .string x.node.data] 47) := ⟨_, rfl⟩
      have hb5 : Below wr.heap.size wr W5 := by rw [hW5]; exact (Below.refl _ wr).alloc (Nat.le_refl _) _
      have wb5 := (hb5.block _ (lt_of_heap wb)).trans wb
      have z0 : (wr.alloc (.cells #[.bool x.take, .string x.node.path, .int .i64 x.node.kind, .int .i64 x.node.mode, .int .i64 x.node.tag, .string x.node.data] 47)).cell? ⟨w1.heap.size, 0, none⟩ = some (.pointer (some ⟨bl, 0, none⟩)) := by rw [← hW5, cell_of_row W5 _ _ _ _ _ wb5]; rfl
      have z1 : (wr.alloc (.cells #[.bool x.take, .string x.node.path, .int .i64 x.node.kind, .int .i64 x.node.mode, .int .i64 x.node.tag, .string x.node.data] 47)).cell? ⟨w1.heap.size, 1, none⟩ = some (.pointer (some ⟨bm, 0, none⟩)) := by rw [← hW5, cell_of_row W5 _ _ _ _ _ wb5]; rfl
      have hdo := wdo_any w W5 B bl bd bs pv pvk lv psk d bm evk Mk x k (txk.below hb5) mok hn hn3 pbk (by omega) hfx
      unfold wkV ddV at hdo
      have HDO := hide hdo
      have HCH := hide ch
      have HX := hide hx
      clear hdo ch hx txk dsk mok pbk wb wb5
      go_wp2_with fail
      rw [← hW5]
      refine (unhide HDO).mono ?_
      rintro e w6 ⟨c, M6, ps6, pv6, ev6, rfl, h1, tx6⟩
      by_cases hc : c = 0
      · subst hc
        have hch : Chain M0 [] (L.take (k + 1)) M6 ps6 := by
          rw [show L.take (k + 1) = L.take k ++ [x] by rw [List.take_add_one, unhide HX]; rfl]
          exact Chain.snoc (unhide HCH) h1
        have HC6 := hide hch
        have HT6 := hide tx6
        clear hch tx6 h1
        go_wp2_with fail
        go_roundw
        case rel => exact ⟨k + 1, by omega, by go_num, M6, ps6, pv6, ev6, unhide HC6, unhide HT6⟩
        case measure => simp [intOf]; omega
      · have hcb : (c == 0) = false := by simpa using hc
        have HC := hide hc
        have HT6 := hide tx6
        have H1 := hide h1
        clear hc tx6 h1
        go_wp2_with fail
        refine leaves_cons (f := 55) (args := #[.pointer (some ⟨bl, 0, none⟩)]) (by simp) (by simp [go_sem]) ?_
        refine (drop_deferred .returning _ bl bd _ ps6 false (unhide HT6).sys.log).mono ?_
        rintro e u' w' ⟨rfl, rfl, hl', st⟩
        have s6 := (unhide HT6).sys.ofLog hl' st
        have st' := (unhide HT6).st.trans st
        exact ⟨_, results_tmp rfl _ _ _, .inl ⟨k, x, c, _, _, _, _, unhide HCH, unhide HX, unhide H1, unhide HC, rfl, s6.1, SStep.ofLog st', (tx_base (unhide HT6) s).trans s6.2⟩⟩
    · have hke : k = L.length := by omega
      subst hke
      rw [List.take_length] at ch
      have b0 := bak.c0
      have hzk : ∀ p ∈ psk, p.2.size ≤ 256 := fun p hp => Nat.le_of_eq (pbk.sz p hp)
      have hcm := commit_any wr B bl bd bs pvk lv psk false d txk.sys ok (by omega) (by rw [hl]; simp) (by have := pbk.len; omega) (fun p hp => by have := pbk.lt p.1 (List.mem_map.2 ⟨p, hp, rfl⟩); omega) hzk
      have HCM := hide hcm
      have HT := hide txk
      have HCH := hide ch
      clear hcm txk ch
      go_wp2_with fail
      refine (unhide HCM).mono ?_
      rintro e w7 ⟨lv7, rfl, s7, b7, ss7⟩
      go_wp2_with fail
      refine leaves_cons (f := 55) (args := #[.pointer (some ⟨bl, 0, none⟩)]) (by simp) (by simp [go_sem]) ?_
      refine (drop_deferred .returning _ bl bd _ [] _ s7.log).mono ?_
      rintro e u' w' ⟨rfl, rfl, hl', st⟩
      have s8 := s7.ofLog hl' st
      refine ⟨_, results_tmp rfl _ _ _, .inr ⟨Mk, psk, lv7, unhide HCH, rfl, s8.1, ?_, ((tx_base (unhide HT) s).trans b7).trans s8.2⟩⟩
      have q1 := SStep.after (unhide HT).st ss7
      refine ⟨Nat.le_trans q1.size st.size, fun k hk h1 h2 h3 h4 h5 => ?_, q1.fresh⟩
      rw [st.block k (by have := q1.size; omega) h1 h1 (by simp [Value.ownBlock]), q1.block k hk h1 h2 h3 h4 h5]
end Go.Proofs.YtcbindgpbeaebaaDoor
